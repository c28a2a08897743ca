/-
 Proved: whatever the arguments are, carrierlaw16.EntrySame answers true and leaves its arguments as they were. No condition.
-/
import Derived.Test.YtjdbmlifekghfaaEt0
import Derived.Test.YtjdbmlifekghfaaEt35
import Derived.Test.YtjdbmlifekghfaaEt1
import Derived.ProofKit
import Derived.OpenShut
import Derived.ShutString
import Derived.ChangeOld
import Derived.Below
import Derived.Deep.DeepCutAuto
import Derived.Deep.CutBlock
import Derived.Laws.Tables
namespace Go.Proofs.Ytjdbmlifekghfaa.entrySame
set_option maxHeartbeats 16000000
set_option maxRecDepth 100000
open Go.ChangeShapes Go.WideShapes Go.ChangeAt Go.RowKit
set_option linter.unusedVariables false

theorem own : ownKnob Try.prog.godebug = none := by kernel_rfl
theorem laidOut : laidOutB Try.prog = true := by kernel_rfl

theorem keptRow (w : World) (g : Nat) (cs : Array Value) : Kept w (w.setRow g cs) [g] := ⟨rfl, rfl, rfl, by simp [World.setRow], fun k _ hk => setRow_other w g k cs (by simpa using hk)⟩

theorem one13 (k tx nx id1 tn tm ta n at1 : Int) (nm : ByteArray) (ao : Option Addr) (an ao1 : Nat) (ae : Option Addr) (en ae1 : Nat) (ai : Option Addr) (il ai1 : Nat) :
  (#[.int .u8 k, .int .i64 tx, .int .i64 nx, .int .i64 id1, .slice ao an ao1, .slice ae en ae1, .int .i64 tn, .int .i64 tm, .slice ai il ai1, .int .i64 ta, .string nm, .int .i64 n, .int .i64 at1] : Array Value).all (·.oneCell') = true := by
 refine all_oneCell_toArray ?_
 intro u hu
 simp only [List.mem_cons, List.not_mem_nil, or_false] at hu
 rcases hu with rfl | rfl | rfl | rfl | rfl | rfl | rfl | rfl | rfl | rfl | rfl | rfl | rfl <;> rfl

theorem step_row {P : Program} {ops : Array Oper} {o : Oper} {a : Act} {w : World} {K : Act → World → Prop} {Q : Exit → Act → World → Prop} {E : Prop} (hgd : o.guard = none) (ty : TypeId) (x y : Operand) (ho : o.op = .store ty x y)
  (g : Nat) (cells : Array Value) (hx : a.eval x = .pointer (some ⟨g, 0, none⟩)) (hy : a.eval y = .agg cells) (t : TypeId) (old : Array Value) (hg : w.heap[g]? = some (.cells old t (0, 0))) (hi : (P.info? ty).map (·.size) = some cells.size)
  (hold : old.size = cells.size) (h1 : cells.all (·.oneCell') = true) (h : ∀ w', RowKit.Hid (w'.heap[g]? = some (.cells cells t (0, 0))) → Kept w w' [g] → K (a.put o.dst undef) w') :
  if Region.wanted o (yielded ops a.tmps) = true then Oper.wp P o a w K Q else E := by
 have hw : Region.wanted o (yielded ops a.tmps) = true := by simp [Region.wanted, hgd]
 rw [if_pos hw]
 exact wp_store_row ty x y ho g cells hx hy t old hg hi hold h1 (h _ (Lib.hid (setRow_heap w g _ _ t _ hg)) (keptRow w g _))

theorem RdN.off {w w' : World} {E : En} {vo ve vi : Value} {z : Nat} {us : Array Value} (r : RdN w E vo ve vi) (n : NoEs w vo ve vi) (hz : w.heap[z]? = some (.cells us 35 (0, 0))) (k : Kept w w' [z]) : RdN w' E vo ve vi := by
 have ne : ∀ v, NoE w v → ∀ b, v.ownBlock = some b → b ∉ [z] := fun v hn b hb => by
  obtain ⟨c, T, hc, hT⟩ := hn b hb
  simp only [List.mem_singleton]
  rintro rfl
  rw [hz] at hc
  simp only [Option.some.injEq, Obj.cells.injEq] at hc
  exact hT hc.2.1.symm
 exact ⟨r.ro.kept k (ne _ n.1), r.re.kept k (ne _ n.2.1), r.ri.kept k (ne _ n.2.2)⟩
theorem NoEs.off {w w' : World} {vo ve vi : Value} {z : Nat} {us : Array Value} (n : NoEs w vo ve vi) (hz : w.heap[z]? = some (.cells us 35 (0, 0))) (k : Kept w w' [z]) : NoEs w' vo ve vi := by
 have ne : ∀ v, NoE w v → ∀ b, v.ownBlock = some b → b ∉ [z] := fun v hn b hb => by
  obtain ⟨c, T, hc, hT⟩ := hn b hb
  simp only [List.mem_singleton]
  rintro rfl
  rw [hz] at hc
  simp only [Option.some.injEq, Obj.cells.injEq] at hc
  exact hT hc.2.1.symm
 exact ⟨n.1.keepK k (ne _ n.1), n.2.1.keepK k (ne _ n.2.1), n.2.2.keepK k (ne _ n.2.2)⟩
theorem NoEs.keep {w w' : World} {vo ve vi : Value} (n : NoEs w vo ve vi) (k : Kept w w' []) : NoEs w' vo ve vi := ⟨n.1.keepK k (by simp), n.2.1.keepK k (by simp), n.2.2.keepK k (by simp)⟩
theorem LowN.keep {w w' : World} {vo ve vi : Value} (n : LowN w vo ve vi) (k : w.heap.size ≤ w'.heap.size) : LowN w' vo ve vi := ⟨fun b hb => Nat.lt_of_lt_of_le (n.1 b hb) k, fun b hb => Nat.lt_of_lt_of_le (n.2.1 b hb) k, fun b hb => Nat.lt_of_lt_of_le (n.2.2 b hb) k⟩
theorem off3 {w w' : World} {E : En} {vo ve vi : Value} {z : Nat} {us : Array Value} (r : RowKit.Hid (RdN w E vo ve vi)) (n : RowKit.Hid (NoEs w vo ve vi)) (l : RowKit.Hid (LowN w vo ve vi)) (hz : RowKit.Hid (w.heap[z]? = some (.cells us 35 (0, 0)))) (k : Kept w w' [z]) :
  RowKit.Hid (RdN w' E vo ve vi) ∧ RowKit.Hid (NoEs w' vo ve vi) ∧ RowKit.Hid (LowN w' vo ve vi) := ⟨Lib.hid (RdN.off r.out n.out hz.out k), Lib.hid (NoEs.off n.out hz.out k), Lib.hid (LowN.keep l.out k.size)⟩
theorem EqP.bl {P : Prop} {f : Nat} {args : Array Value} {w : World} {B : Bool} (h : Calls Try.prog f args w fun e w' => EqP P w e w') (hB : B = true ↔ P) : Calls Try.prog f args w fun e w' => e = .returned (.bool B) ∧ Kept w w' [] :=
 h.mono (by
  rintro e w' ⟨r, rfl, hr, k⟩
  obtain rfl : r = B := Bool.eq_iff_iff.2 (hr.trans hB.symm)
  exact ⟨rfl, k⟩)

def EBox (w : World) (z : Nat) (r : Rw) : Prop :=
 ∃ (k tx nx id1 : Int) (ops : List Ox) (evs : List Px) (tn tm : Int) (op : List Int) (ta : Int) (nm : ByteArray) (n at1 : Int) (ao : Option Addr) (ao1 : Nat) (ae : Option Addr) (ae1 : Nat) (ai : Option Addr) (ai1 : Nat) (M : Int) (l : List Int), w.heap[z]? = some (.cells #[.int .u8 k, .int .i64 tx, .int .i64 nx, .int .i64 id1, .slice ao ops.length ao1, .slice ae evs.length ae1, .int .i64 tn, .int .i64 tm, .slice ai op.length ai1, .int .i64 ta, .string nm, .int .i64 n, .int .i64 at1] 35 (0, 0)) ∧ RdN w (⟨k, tx, nx, id1, ops, evs, tn, tm, op, ta, nm, n, at1⟩ : En) (.slice ao ops.length ao1) (.slice ae evs.length ae1) (.slice ai op.length ai1) ∧ LowN w (.slice ao ops.length ao1) (.slice ae evs.length ae1) (.slice ai op.length ai1) ∧ (⟨k, tx, nx, id1, ops, evs, tn, tm, op, ta, nm, n, at1⟩ : En).Right ∧ (⟨k, tx, nx, id1, ops, evs, tn, tm, op, ta, nm, n, at1⟩ : En) = xqL r M l ∧ M = 1 + (r.M : Int) % 40

def ZCut (w0 w : World) (z : Nat) (E : En) : Prop :=
 ∃ (k tx nx id1 : Int) (ops : List Ox) (evs : List Px) (tn tm : Int) (op : List Int) (ta : Int) (nm : ByteArray) (n at1 : Int) (ao : Option Addr) (ao1 : Nat) (ae : Option Addr) (ae1 : Nat) (ai : Option Addr) (ai1 : Nat), w.heap[z]? = some (.cells #[.int .u8 k, .int .i64 tx, .int .i64 nx, .int .i64 id1, .slice ao ops.length ao1, .slice ae evs.length ae1, .int .i64 tn, .int .i64 tm, .slice ai op.length ai1, .int .i64 ta, .string nm, .int .i64 n, .int .i64 at1] 41 (0, 0)) ∧ RdN w (⟨k, tx, nx, id1, ops, evs, tn, tm, op, ta, nm, n, at1⟩ : En) (.slice ao ops.length ao1) (.slice ae evs.length ae1) (.slice ai op.length ai1) ∧ (⟨k, tx, nx, id1, ops, evs, tn, tm, op, ta, nm, n, at1⟩ : En) ≠ E ∧ ops.length ≤ 1000 ∧ evs.length ≤ 1000 ∧ Kept w0 w []

theorem raw_alike {r : Rw} {M : Int} {l l' : List Int} {E E' : En} (h : E = xqL r M l) (h' : E' = xqL r M l') : (⟨E.k, E.tx, E.nx, E.id, E.ops, E.evs, E.tn, E.tm, E'.op, E.ta, E.nm, E.n, E.at'⟩ : En) = E' := by
 subst h h'
 by_cases h0 : r.k % 11 = 0
 ·simp only [xqL, if_pos h0]
 by_cases h7 : r.k % 11 = 7
 ·simp only [xqL, if_neg h0, if_pos h7]
 by_cases h1 : r.k % 11 = 1
 ·simp only [xqL, if_neg h0, if_neg h7, if_pos h1]
 by_cases h2 : r.k % 11 < 6
 ·simp only [xqL, if_neg h0, if_neg h7, if_neg h1, if_pos h2]
 by_cases h6 : r.k % 11 = 6
 ·simp only [xqL, if_neg h0, if_neg h7, if_neg h1, if_neg h2, if_pos h6]
 by_cases h10 : r.k % 11 < 10
 ·simp only [xqL, if_neg h0, if_neg h7, if_neg h1, if_neg h2, if_neg h6, if_pos h10]
 ·simp only [xqL, if_neg h0, if_neg h7, if_neg h1, if_neg h2, if_neg h6, if_neg h10]

theorem walk (r : Rw) (vl vk vg vs : Value) (bl bg bs : List UInt8) (rb : Rw) (vlb vkb vgb vsb : Value) (blb bgb bsb : List UInt8) (a2 : Int) (W : World) (d : RdW W r vl vk vg vs bl bg bs) (u : r.Num) (db : RdW W rb vlb vkb vgb vsb blb bgb bsb) (ub : rb.Num) (w2 : (Lit.int .u8 a2).wf = true) :
  Calls Try.prog 7 #[.agg (r.cs vl vk vg vs), .agg (rb.cs vlb vkb vgb vsb), .int .u8 a2] W fun e w' => e = .returned (.bool true) ∧ Below W.heap.size W w' := by
 obtain ⟨la, lc, rfl, _⟩ := id d.l
 obtain ⟨ka, kc, rfl, _⟩ := id d.k
 obtain ⟨ga, gc, rfl, _⟩ := id d.g
 obtain ⟨sa, sc, rfl, _⟩ := id d.s
 obtain ⟨rk, rtx, rn, ra, rnm, rM, rl, rks, rt, rgs, rss⟩ := r
 obtain ⟨lab, lcb, rfl, _⟩ := id db.l
 obtain ⟨kab, kcb, rfl, _⟩ := id db.k
 obtain ⟨gab, gcb, rfl, _⟩ := id db.g
 obtain ⟨sab, scb, rfl, _⟩ := id db.s
 obtain ⟨rkb, rtxb, rnb, rab, rnmb, rMb, rlb, rksb, rtb, rgsb, rssb⟩ := rb
 have Bd := Lib.hid (bounds_u8 w2)
 clear w2
 by_cases sma : (⟨rk, rtx, rn, ra, rnm, rM, rl, rks, rt, rgs, rss⟩ : Rw).Small bl bg bs
 case neg =>
  have HN := fun (V : World) (hV : Kept W V []) => small_no (⟨rk, rtx, rn, ra, rnm, rM, rl, rks, rt, rgs, rss⟩ : Rw) (.slice la bl.length lc) (.slice ka rks.length kc) (.slice ga bg.length gc) (.slice sa bs.length sc) bl bg bs V (d.keep hV) sma
  simp only [Rw.cs_eq] at HN
  have HN := Lib.hid HN
  clear d u db ub sma
  rw [Rw.cs_eq, Rw.cs_eq]
  go_enter Try.func7, Try.ntmps7
  go_wp2_with fail
  refine (nine_any _).mono ?_
  rintro e w1 ⟨rfl, hk⟩
  have K1 := Lib.hid ((((Kept.refl W []).alloc _).alloc _).trans hk (by simp))
  have B1 := Lib.hid (hk.heap (by simp) (((Kept.refl _ []).alloc (.cells #[.int .u8 (rkb : Nat), .int .i64 rtxb, .int .i64 rnb, .int .i64 rab, .string rnmb, .int .u8 (rMb : Nat), .slice lab blb.length lcb, .slice kab rksb.length kcb, .string rtb, .slice gab bgb.length gcb, .slice sab bsb.length scb] 25)).heap (by simp) (heap_alloc_new W (.cells #[.int .u8 (rk : Nat), .int .i64 rtx, .int .i64 rn, .int .i64 ra, .string rnm, .int .u8 (rM : Nat), .slice la bl.length lc, .slice ka rks.length kc, .string rt, .slice ga bg.length gc, .slice sa bs.length sc] 25))))
  have C1 : RowKit.Hid (w1.heap[W.heap.size + 1]? = some (.cells #[.int .u8 (rkb : Nat), .int .i64 rtxb, .int .i64 rnb, .int .i64 rab, .string rnmb, .int .u8 (rMb : Nat), .slice lab blb.length lcb, .slice kab rksb.length kcb, .string rtb, .slice gab bgb.length gcb, .slice sab bsb.length scb] 25 (0, 0))) := Lib.hid (hk.heap (by simp) (by have := heap_alloc_new (W.alloc (.cells #[.int .u8 (rk : Nat), .int .i64 rtx, .int .i64 rn, .int .i64 ra, .string rnm, .int .u8 (rM : Nat), .slice la bl.length lc, .slice ka rks.length kc, .string rt, .slice ga bg.length gc, .slice sa bs.length sc] 25)) (.cells #[.int .u8 (rkb : Nat), .int .i64 rtxb, .int .i64 rnb, .int .i64 rab, .string rnmb, .int .u8 (rMb : Nat), .slice lab blb.length lcb, .slice kab rksb.length kcb, .string rtb, .slice gab bgb.length gcb, .slice sab bsb.length scb] 25); simpa using this))
  clear hk
  have pp := fun j => cell_of_row w1 W.heap.size j _ _ _ B1.out
  have p0 := pp 0
  have p1 := pp 1
  have p2 := pp 2
  have p3 := pp 3
  have p4 := pp 4
  have p5 := pp 5
  have p6 := pp 6
  have p7 := pp 7
  have p8 := pp 8
  have p9 := pp 9
  have p10 := pp 10
  simp only [List.getElem?_toArray, List.getElem?_cons_zero, List.getElem?_cons_succ] at p0 p1 p2 p3 p4 p5 p6 p7 p8 p9 p10
  clear pp
  have pp := fun j => cell_of_row w1 (W.heap.size + 1) j _ _ _ C1.out
  have o0 := pp 0
  have o1 := pp 1
  have o2 := pp 2
  have o3 := pp 3
  have o4 := pp 4
  have o5 := pp 5
  have o6 := pp 6
  have o7 := pp 7
  have o8 := pp 8
  have o9 := pp 9
  have o10 := pp 10
  simp only [List.getElem?_toArray, List.getElem?_cons_zero, List.getElem?_cons_succ] at o0 o1 o2 o3 o4 o5 o6 o7 o8 o9 o10
  clear pp
  go_wp2_with fail
  refine (HN.out _ K1.out).mono ?_
  rintro e w2 ⟨rfl, hk⟩
  have K2 := Lib.hid (K1.out.trans hk (by simp)); have B2 := Lib.hid (hk.heap (by simp) B1.out); have C2 := Lib.hid (hk.heap (by simp) C1.out)
  clear hk
  clear p0 p1 p2 p3 p4 p5 p6 p7 p8 p9 p10
  clear o0 o1 o2 o3 o4 o5 o6 o7 o8 o9 o10
  go_wp2_with fail
  refine (nine_any _).mono ?_
  rintro e w9 ⟨rfl, hk⟩
  have K9 := Lib.hid (K2.out.trans hk (by simp)); clear hk
  go_wp2
  go_ret
  exact ⟨rfl, K9.out.below (Nat.le_refl _) (by simp)⟩
 have HY := fun (V : World) (hV : Kept W V []) => small_yes (⟨rk, rtx, rn, ra, rnm, rM, rl, rks, rt, rgs, rss⟩ : Rw) (.slice la bl.length lc) (.slice ka rks.length kc) (.slice ga bg.length gc) (.slice sa bs.length sc) bl bg bs V (d.keep hV) sma
 simp only [Rw.cs_eq] at HY
 have HY := Lib.hid HY
 have HOF := fun (V : World) (hV : Kept W V []) => of_lit (⟨rk, rtx, rn, ra, rnm, rM, rl, rks, rt, rgs, rss⟩ : Rw) (.slice la bl.length lc) (.slice ka rks.length kc) (.slice ga bg.length gc) (.slice sa bs.length sc) bl bg bs V (d.keep hV) u sma
 simp only [Rw.cs_eq] at HOF
 have HOF := Lib.hid HOF
 by_cases smb : (⟨rkb, rtxb, rnb, rab, rnmb, rMb, rlb, rksb, rtb, rgsb, rssb⟩ : Rw).Small blb bgb bsb
 case neg =>
  have HNb := fun (V : World) (hV : Kept W V []) => small_no (⟨rkb, rtxb, rnb, rab, rnmb, rMb, rlb, rksb, rtb, rgsb, rssb⟩ : Rw) (.slice lab blb.length lcb) (.slice kab rksb.length kcb) (.slice gab bgb.length gcb) (.slice sab bsb.length scb) blb bgb bsb V (db.keep hV) smb
  simp only [Rw.cs_eq] at HNb
  have HNb := Lib.hid HNb
  clear d u db ub sma smb HOF
  rw [Rw.cs_eq, Rw.cs_eq]
  go_enter Try.func7, Try.ntmps7
  go_wp2_with fail
  refine (nine_any _).mono ?_
  rintro e w1 ⟨rfl, hk⟩
  have K1 := Lib.hid ((((Kept.refl W []).alloc _).alloc _).trans hk (by simp))
  have B1 := Lib.hid (hk.heap (by simp) (((Kept.refl _ []).alloc (.cells #[.int .u8 (rkb : Nat), .int .i64 rtxb, .int .i64 rnb, .int .i64 rab, .string rnmb, .int .u8 (rMb : Nat), .slice lab blb.length lcb, .slice kab rksb.length kcb, .string rtb, .slice gab bgb.length gcb, .slice sab bsb.length scb] 25)).heap (by simp) (heap_alloc_new W (.cells #[.int .u8 (rk : Nat), .int .i64 rtx, .int .i64 rn, .int .i64 ra, .string rnm, .int .u8 (rM : Nat), .slice la bl.length lc, .slice ka rks.length kc, .string rt, .slice ga bg.length gc, .slice sa bs.length sc] 25))))
  have C1 : RowKit.Hid (w1.heap[W.heap.size + 1]? = some (.cells #[.int .u8 (rkb : Nat), .int .i64 rtxb, .int .i64 rnb, .int .i64 rab, .string rnmb, .int .u8 (rMb : Nat), .slice lab blb.length lcb, .slice kab rksb.length kcb, .string rtb, .slice gab bgb.length gcb, .slice sab bsb.length scb] 25 (0, 0))) := Lib.hid (hk.heap (by simp) (by have := heap_alloc_new (W.alloc (.cells #[.int .u8 (rk : Nat), .int .i64 rtx, .int .i64 rn, .int .i64 ra, .string rnm, .int .u8 (rM : Nat), .slice la bl.length lc, .slice ka rks.length kc, .string rt, .slice ga bg.length gc, .slice sa bs.length sc] 25)) (.cells #[.int .u8 (rkb : Nat), .int .i64 rtxb, .int .i64 rnb, .int .i64 rab, .string rnmb, .int .u8 (rMb : Nat), .slice lab blb.length lcb, .slice kab rksb.length kcb, .string rtb, .slice gab bgb.length gcb, .slice sab bsb.length scb] 25); simpa using this))
  clear hk
  have pp := fun j => cell_of_row w1 W.heap.size j _ _ _ B1.out
  have p0 := pp 0
  have p1 := pp 1
  have p2 := pp 2
  have p3 := pp 3
  have p4 := pp 4
  have p5 := pp 5
  have p6 := pp 6
  have p7 := pp 7
  have p8 := pp 8
  have p9 := pp 9
  have p10 := pp 10
  simp only [List.getElem?_toArray, List.getElem?_cons_zero, List.getElem?_cons_succ] at p0 p1 p2 p3 p4 p5 p6 p7 p8 p9 p10
  clear pp
  have pp := fun j => cell_of_row w1 (W.heap.size + 1) j _ _ _ C1.out
  have o0 := pp 0
  have o1 := pp 1
  have o2 := pp 2
  have o3 := pp 3
  have o4 := pp 4
  have o5 := pp 5
  have o6 := pp 6
  have o7 := pp 7
  have o8 := pp 8
  have o9 := pp 9
  have o10 := pp 10
  simp only [List.getElem?_toArray, List.getElem?_cons_zero, List.getElem?_cons_succ] at o0 o1 o2 o3 o4 o5 o6 o7 o8 o9 o10
  clear pp
  go_wp2_with fail
  refine (HY.out _ K1.out).mono ?_
  rintro e w2 ⟨rfl, hk⟩
  have K2 := Lib.hid (K1.out.trans hk (by simp)); have B2 := Lib.hid (hk.heap (by simp) B1.out); have C2 := Lib.hid (hk.heap (by simp) C1.out)
  clear hk
  clear p0 p1 p2 p3 p4 p5 p6 p7 p8 p9 p10
  clear o0 o1 o2 o3 o4 o5 o6 o7 o8 o9 o10
  have pp := fun j => cell_of_row w2 W.heap.size j _ _ _ B2.out
  have p0 := pp 0
  have p1 := pp 1
  have p2 := pp 2
  have p3 := pp 3
  have p4 := pp 4
  have p5 := pp 5
  have p6 := pp 6
  have p7 := pp 7
  have p8 := pp 8
  have p9 := pp 9
  have p10 := pp 10
  simp only [List.getElem?_toArray, List.getElem?_cons_zero, List.getElem?_cons_succ] at p0 p1 p2 p3 p4 p5 p6 p7 p8 p9 p10
  clear pp
  have pp := fun j => cell_of_row w2 (W.heap.size + 1) j _ _ _ C2.out
  have o0 := pp 0
  have o1 := pp 1
  have o2 := pp 2
  have o3 := pp 3
  have o4 := pp 4
  have o5 := pp 5
  have o6 := pp 6
  have o7 := pp 7
  have o8 := pp 8
  have o9 := pp 9
  have o10 := pp 10
  simp only [List.getElem?_toArray, List.getElem?_cons_zero, List.getElem?_cons_succ] at o0 o1 o2 o3 o4 o5 o6 o7 o8 o9 o10
  clear pp
  go_wp2_with fail
  refine (HNb.out _ K2.out).mono ?_
  rintro e w3 ⟨rfl, hk⟩
  have K3 := Lib.hid (K2.out.trans hk (by simp)); have B3 := Lib.hid (hk.heap (by simp) B2.out); have C3 := Lib.hid (hk.heap (by simp) C2.out)
  clear hk
  clear p0 p1 p2 p3 p4 p5 p6 p7 p8 p9 p10
  clear o0 o1 o2 o3 o4 o5 o6 o7 o8 o9 o10
  go_wp2_with fail
  refine (nine_any _).mono ?_
  rintro e w9 ⟨rfl, hk⟩
  have K9 := Lib.hid (K3.out.trans hk (by simp)); clear hk
  go_wp2
  go_ret
  exact ⟨rfl, K9.out.below (Nat.le_refl _) (by simp)⟩
 have HYb := fun (V : World) (hV : Kept W V []) => small_yes (⟨rkb, rtxb, rnb, rab, rnmb, rMb, rlb, rksb, rtb, rgsb, rssb⟩ : Rw) (.slice lab blb.length lcb) (.slice kab rksb.length kcb) (.slice gab bgb.length gcb) (.slice sab bsb.length scb) blb bgb bsb V (db.keep hV) smb
 simp only [Rw.cs_eq] at HYb
 have HYb := Lib.hid HYb
 have HOFb := fun (V : World) (hV : Kept W V []) => of_lit (⟨rkb, rtxb, rnb, rab, rnmb, rMb, rlb, rksb, rtb, rgsb, rssb⟩ : Rw) (.slice lab blb.length lcb) (.slice kab rksb.length kcb) (.slice gab bgb.length gcb) (.slice sab bsb.length scb) blb bgb bsb V (db.keep hV) ub smb
 simp only [Rw.cs_eq] at HOFb
 have HOFb := Lib.hid HOFb
 clear d u db ub sma smb
 rw [Rw.cs_eq, Rw.cs_eq]
 go_enter Try.func7, Try.ntmps7
 go_wp2_with fail
 refine (nine_any _).mono ?_
 rintro e w1 ⟨rfl, hk⟩
 have K1 := Lib.hid ((((Kept.refl W []).alloc _).alloc _).trans hk (by simp))
 have B1 := Lib.hid (hk.heap (by simp) (((Kept.refl _ []).alloc (.cells #[.int .u8 (rkb : Nat), .int .i64 rtxb, .int .i64 rnb, .int .i64 rab, .string rnmb, .int .u8 (rMb : Nat), .slice lab blb.length lcb, .slice kab rksb.length kcb, .string rtb, .slice gab bgb.length gcb, .slice sab bsb.length scb] 25)).heap (by simp) (heap_alloc_new W (.cells #[.int .u8 (rk : Nat), .int .i64 rtx, .int .i64 rn, .int .i64 ra, .string rnm, .int .u8 (rM : Nat), .slice la bl.length lc, .slice ka rks.length kc, .string rt, .slice ga bg.length gc, .slice sa bs.length sc] 25))))
 have C1 : RowKit.Hid (w1.heap[W.heap.size + 1]? = some (.cells #[.int .u8 (rkb : Nat), .int .i64 rtxb, .int .i64 rnb, .int .i64 rab, .string rnmb, .int .u8 (rMb : Nat), .slice lab blb.length lcb, .slice kab rksb.length kcb, .string rtb, .slice gab bgb.length gcb, .slice sab bsb.length scb] 25 (0, 0))) := Lib.hid (hk.heap (by simp) (by have := heap_alloc_new (W.alloc (.cells #[.int .u8 (rk : Nat), .int .i64 rtx, .int .i64 rn, .int .i64 ra, .string rnm, .int .u8 (rM : Nat), .slice la bl.length lc, .slice ka rks.length kc, .string rt, .slice ga bg.length gc, .slice sa bs.length sc] 25)) (.cells #[.int .u8 (rkb : Nat), .int .i64 rtxb, .int .i64 rnb, .int .i64 rab, .string rnmb, .int .u8 (rMb : Nat), .slice lab blb.length lcb, .slice kab rksb.length kcb, .string rtb, .slice gab bgb.length gcb, .slice sab bsb.length scb] 25); simpa using this))
 clear hk
 have pp := fun j => cell_of_row w1 W.heap.size j _ _ _ B1.out
 have p0 := pp 0
 have p1 := pp 1
 have p2 := pp 2
 have p3 := pp 3
 have p4 := pp 4
 have p5 := pp 5
 have p6 := pp 6
 have p7 := pp 7
 have p8 := pp 8
 have p9 := pp 9
 have p10 := pp 10
 simp only [List.getElem?_toArray, List.getElem?_cons_zero, List.getElem?_cons_succ] at p0 p1 p2 p3 p4 p5 p6 p7 p8 p9 p10
 clear pp
 have pp := fun j => cell_of_row w1 (W.heap.size + 1) j _ _ _ C1.out
 have o0 := pp 0
 have o1 := pp 1
 have o2 := pp 2
 have o3 := pp 3
 have o4 := pp 4
 have o5 := pp 5
 have o6 := pp 6
 have o7 := pp 7
 have o8 := pp 8
 have o9 := pp 9
 have o10 := pp 10
 simp only [List.getElem?_toArray, List.getElem?_cons_zero, List.getElem?_cons_succ] at o0 o1 o2 o3 o4 o5 o6 o7 o8 o9 o10
 clear pp
 go_wp2_with fail
 refine (HY.out _ K1.out).mono ?_
 rintro e w2 ⟨rfl, hk⟩
 have K2 := Lib.hid (K1.out.trans hk (by simp)); have B2 := Lib.hid (hk.heap (by simp) B1.out); have C2 := Lib.hid (hk.heap (by simp) C1.out)
 clear hk
 clear p0 p1 p2 p3 p4 p5 p6 p7 p8 p9 p10
 clear o0 o1 o2 o3 o4 o5 o6 o7 o8 o9 o10
 have pp := fun j => cell_of_row w2 W.heap.size j _ _ _ B2.out
 have p0 := pp 0
 have p1 := pp 1
 have p2 := pp 2
 have p3 := pp 3
 have p4 := pp 4
 have p5 := pp 5
 have p6 := pp 6
 have p7 := pp 7
 have p8 := pp 8
 have p9 := pp 9
 have p10 := pp 10
 simp only [List.getElem?_toArray, List.getElem?_cons_zero, List.getElem?_cons_succ] at p0 p1 p2 p3 p4 p5 p6 p7 p8 p9 p10
 clear pp
 have pp := fun j => cell_of_row w2 (W.heap.size + 1) j _ _ _ C2.out
 have o0 := pp 0
 have o1 := pp 1
 have o2 := pp 2
 have o3 := pp 3
 have o4 := pp 4
 have o5 := pp 5
 have o6 := pp 6
 have o7 := pp 7
 have o8 := pp 8
 have o9 := pp 9
 have o10 := pp 10
 simp only [List.getElem?_toArray, List.getElem?_cons_zero, List.getElem?_cons_succ] at o0 o1 o2 o3 o4 o5 o6 o7 o8 o9 o10
 clear pp
 go_wp2_with fail
 refine (HYb.out _ K2.out).mono ?_
 rintro e w3 ⟨rfl, hk⟩
 have K3 := Lib.hid (K2.out.trans hk (by simp)); have B3 := Lib.hid (hk.heap (by simp) B2.out); have C3 := Lib.hid (hk.heap (by simp) C2.out)
 clear hk
 clear p0 p1 p2 p3 p4 p5 p6 p7 p8 p9 p10
 clear o0 o1 o2 o3 o4 o5 o6 o7 o8 o9 o10
 go_upto_region 3 with fail
 go_cut [7, 8] (fun s7 s8 wx => ∃ z7 z8 : Nat, s7 = .pointer (some ⟨z7, 0, none⟩) ∧ s8 = .pointer (some ⟨z8, 0, none⟩) ∧ RowKit.Hid (z7 ≠ z8) ∧ RowKit.Hid (Kept w3 wx []) ∧ EBox wx z7 (⟨rk, rtx, rn, ra, rnm, rM, rl, rks, rt, rgs, rss⟩ : Rw) ∧ EBox wx z8 (⟨rkb, rtxb, rnb, rab, rnmb, rMb, rlb, rksb, rtb, rgsb, rssb⟩ : Rw))
 case first =>
  refine wp_region_held_drew (S := fun Z => Kept w3 Z []) (by kernel_rfl) (Kept.refl w3 []).drew (fun hHeld => ?_)
  obtain ⟨V0, hWD⟩ : ∃ V0, V0 = w3.drew := ⟨_, rfl⟩
  have KK : RowKit.Hid (Kept w3 V0 []) := Lib.hid (by rw [hWD]; exact (Kept.refl w3 []).drew)
  revert hHeld
  rw [← hWD]
  intro hHeld
  clear hWD
  refine wx 0 23 (.agg #[.int .u8 (rk : Nat), .int .i64 rtx, .int .i64 rn, .int .i64 ra, .string rnm, .int .u8 (rM : Nat), .slice la bl.length lc, .slice ka rks.length kc, .string rt, .slice ga bg.length gc, .slice sa bs.length sc]) rfl hHeld ?_ (hy := fun V hV => by (have hh := hV.heap (by simp) B3.out; have q0 := cell_of_row V _ 0 _ _ _ hh; have q1 := cell_of_row V _ 1 _ _ _ hh; have q2 := cell_of_row V _ 2 _ _ _ hh; have q3 := cell_of_row V _ 3 _ _ _ hh; have q4 := cell_of_row V _ 4 _ _ _ hh; have q5 := cell_of_row V _ 5 _ _ _ hh; have q6 := cell_of_row V _ 6 _ _ _ hh; have q7 := cell_of_row V _ 7 _ _ _ hh; have q8 := cell_of_row V _ 8 _ _ _ hh; have q9 := cell_of_row V _ 9 _ _ _ hh; have q10 := cell_of_row V _ 10 _ _ _ hh; clear hV hh; simp only [List.getElem?_toArray, List.getElem?_cons_zero, List.getElem?_cons_succ] at q0 q1 q2 q3 q4 q5 q6 q7 q8 q9 q10; go_simp))
  refine wx 2 25 (.agg #[.int .u8 (rkb : Nat), .int .i64 rtxb, .int .i64 rnb, .int .i64 rab, .string rnmb, .int .u8 (rMb : Nat), .slice lab blb.length lcb, .slice kab rksb.length kcb, .string rtb, .slice gab bgb.length gcb, .slice sab bsb.length scb]) rfl hHeld ?_ (hy := fun V hV => by (have hh := hV.heap (by simp) C3.out; have q0 := cell_of_row V _ 0 _ _ _ hh; have q1 := cell_of_row V _ 1 _ _ _ hh; have q2 := cell_of_row V _ 2 _ _ _ hh; have q3 := cell_of_row V _ 3 _ _ _ hh; have q4 := cell_of_row V _ 4 _ _ _ hh; have q5 := cell_of_row V _ 5 _ _ _ hh; have q6 := cell_of_row V _ 6 _ _ _ hh; have q7 := cell_of_row V _ 7 _ _ _ hh; have q8 := cell_of_row V _ 8 _ _ _ hh; have q9 := cell_of_row V _ 9 _ _ _ hh; have q10 := cell_of_row V _ 10 _ _ _ hh; clear hV hh; simp only [List.getElem?_toArray, List.getElem?_cons_zero, List.getElem?_cons_succ] at q0 q1 q2 q3 q4 q5 q6 q7 q8 q9 q10; go_simp))
  refine wpAnyH_ready (rs := [1, 4, 5]) (by kernel_rfl) (by simp) ?_
  refine (AllReadyH.cons (o := _) rfl (fun KZ hK => ?_) (AllReadyH.cons (o := _) rfl (fun KZ hK => ?_) (AllReadyH.cons (o := _) rfl (fun KZ hK => ?_) AllReadyH.nil)))
  ·go_simp
   go_at_call 11
   refine (HOF.out _ (K3.out.trans KK.out (by simp))).mono ?_
   rintro ex V1 ⟨k, tx, nx, id1, ops, evs, tn, tm, op, ta, nm, n, at1, ao, ao1, ae, ae1, ai, ai1, M, l, rfl, rdn, lwn, hrn, _, hEn, hMn, kn⟩
   have KK : RowKit.Hid (Kept w3 V1 []) := Lib.hid (KK.out.trans kn (by simp))
   have R := Lib.hid rdn; have L := Lib.hid lwn; have N := Lib.hid hMn.2; have HR := Lib.hid hrn; have HE := Lib.hid hEn; have HM := Lib.hid hMn.1
   clear rdn lwn hrn hEn hMn kn
   go_wp2_with fail
   refine hK.out _ _ KK.out (fun hHeld => ?_)
   clear hK KZ
   refine wpAnyH_ready (rs := [3, 4, 5]) (by kernel_rfl) (by simp) ?_
   refine (AllReadyH.cons (o := _) rfl (fun KZ hK => ?_) (AllReadyH.cons (o := _) rfl (fun KZ hK => ?_) (AllReadyH.cons (o := _) rfl (fun KZ hK => ?_) AllReadyH.nil)))
   ·go_simp
    go_at_call 11
    refine (HOFb.out _ (K3.out.trans KK.out (by simp))).mono ?_
    rintro ex V2 ⟨kb, txb, nxb, id1b, opsb, evsb, tnb, tmb, opb, tab, nmb, nb, at1b, bo, bo1, be, be1, bi, bi1, Mb, lb, rfl, rdn, lwn, hrn, _, hEn, hMn, kn⟩
    have R := Lib.hid (R.out.keep kn)
    have L := Lib.hid (LowN.keep L.out kn.size)
    have N := Lib.hid (NoEs.keep N.out kn)
    have KK : RowKit.Hid (Kept w3 V2 []) := Lib.hid (KK.out.trans kn (by simp))
    have Rb := Lib.hid rdn; have Lb := Lib.hid lwn; have Nb := Lib.hid hMn.2; have HRb := Lib.hid hrn; have HEb := Lib.hid hEn; have HMb := Lib.hid hMn.1
    clear rdn lwn hrn hEn hMn kn
    go_wp2_with fail
    refine hK.out _ _ KK.out (fun hHeld => ?_)
    clear hK KZ
    refine wpAnyH_ready (rs := [4, 5]) (by kernel_rfl) (by simp) ?_
    refine (AllReadyH.cons (o := _) rfl (fun KZ hK => ?_) (AllReadyH.cons (o := _) rfl (fun KZ hK => ?_) AllReadyH.nil))
    ·go_simp
     obtain ⟨z7, hz⟩ : ∃ z, z = V2.heap.size := ⟨_, rfl⟩
     obtain ⟨V3, hY⟩ : ∃ Y, Y = V2.alloc (.cells #[.int .u8 0, .int .i64 0, .int .i64 0, .int .i64 0, .slice none 0 0, .slice none 0 0, .int .i64 0, .int .i64 0, .slice none 0 0, .int .i64 0, .string ⟨#[]⟩, .int .i64 0, .int .i64 0] 35) := ⟨_, rfl⟩
     have kn : Kept V2 V3 [] := by rw [hY]; exact (Kept.refl V2 []).alloc _
     have b7 : V3.heap[z7]? = some (.cells #[.int .u8 0, .int .i64 0, .int .i64 0, .int .i64 0, .slice none 0 0, .slice none 0 0, .int .i64 0, .int .i64 0, .slice none 0 0, .int .i64 0, .string ⟨#[]⟩, .int .i64 0, .int .i64 0] 35 (0, 0)) := by rw [hY, hz]; exact heap_alloc_new V2 _
     rw [← hY, ← hz]
     have Hz7 : RowKit.Hid (w3.heap.size ≤ z7) := Lib.hid (by have := KK.out.size; omega)
     have R := Lib.hid (R.out.keep kn)
     have L := Lib.hid (LowN.keep L.out kn.size)
     have N := Lib.hid (NoEs.keep N.out kn)
     have Rb := Lib.hid (Rb.out.keep kn)
     have Lb := Lib.hid (LowN.keep Lb.out kn.size)
     have Nb := Lib.hid (NoEs.keep Nb.out kn)
     have KK : RowKit.Hid (Kept w3 V3 []) := Lib.hid (KK.out.trans kn (by simp))
     have Zz7 := Lib.hid b7
     clear hY hz kn b7
     refine hK.out _ _ KK.out (fun hHeld => ?_)
     clear hK KZ
     refine wpAnyH_ready (rs := [5]) (by kernel_rfl) (by simp) ?_
     refine (AllReadyH.cons (o := _) rfl (fun KZ hK => ?_) AllReadyH.nil)
     go_simp
     obtain ⟨z8, hz⟩ : ∃ z, z = V3.heap.size := ⟨_, rfl⟩
     obtain ⟨V4, hY⟩ : ∃ Y, Y = V3.alloc (.cells #[.int .u8 0, .int .i64 0, .int .i64 0, .int .i64 0, .slice none 0 0, .slice none 0 0, .int .i64 0, .int .i64 0, .slice none 0 0, .int .i64 0, .string ⟨#[]⟩, .int .i64 0, .int .i64 0] 35) := ⟨_, rfl⟩
     have kn : Kept V3 V4 [] := by rw [hY]; exact (Kept.refl V3 []).alloc _
     have b7 : V4.heap[z8]? = some (.cells #[.int .u8 0, .int .i64 0, .int .i64 0, .int .i64 0, .slice none 0 0, .slice none 0 0, .int .i64 0, .int .i64 0, .slice none 0 0, .int .i64 0, .string ⟨#[]⟩, .int .i64 0, .int .i64 0] 35 (0, 0)) := by rw [hY, hz]; exact heap_alloc_new V3 _
     rw [← hY, ← hz]
     have HNE : RowKit.Hid (z7 ≠ z8) := Lib.hid (by have := (Array.getElem?_eq_some_iff.1 Zz7.out).1; omega)
     have Hz8 : RowKit.Hid (w3.heap.size ≤ z8) := Lib.hid (by have := KK.out.size; omega)
     have R := Lib.hid (R.out.keep kn)
     have L := Lib.hid (LowN.keep L.out kn.size)
     have N := Lib.hid (NoEs.keep N.out kn)
     have Rb := Lib.hid (Rb.out.keep kn)
     have Lb := Lib.hid (LowN.keep Lb.out kn.size)
     have Nb := Lib.hid (NoEs.keep Nb.out kn)
     have Zz7 := Lib.hid (kn.heap (by simp) Zz7.out)
     have KK : RowKit.Hid (Kept w3 V4 []) := Lib.hid (KK.out.trans kn (by simp))
     have Zz8 := Lib.hid b7
     clear hY hz kn b7
     refine hK.out _ _ KK.out (fun hHeld => ?_)
     clear hK KZ
     refine wr1 6 rfl (fun KZ hK => ?_)
     refine step_row rfl 35 (.tmp 7) (.tmp 24) rfl z7 _ rfl rfl 35 _ Zz7.out (show (Try.prog.info? 35).map (·.size) = some 13 by kernel_rfl) rfl (one13 _ _ _ _ _ _ _ _ _ _ _ _ _ _ _ _ _ _ _) ?_
     intro VE g kY
     have kn : Kept w3 VE [] := KK.out.trans kY (by intro x hx; simp at hx; exact .inr (by have := Hz7.out; omega))
     obtain ⟨R, N, L⟩ := off3 R N L Zz7 kY; obtain ⟨Rb, Nb, Lb⟩ := off3 Rb Nb Lb Zz7 kY
     have Zz8 := Lib.hid (kY.heap (by simp; exact fun h => HNE.out h.symm) Zz8.out)
     have G7 := g
     have KK := Lib.hid kn
     clear g kY kn
     refine hK.out _ _ KK.out (fun hHeld => ?_)
     clear hK KZ
     refine wr1 7 rfl (fun KZ hK => ?_)
     refine step_row rfl 35 (.tmp 8) (.tmp 26) rfl z8 _ rfl rfl 35 _ Zz8.out (show (Try.prog.info? 35).map (·.size) = some 13 by kernel_rfl) rfl (one13 _ _ _ _ _ _ _ _ _ _ _ _ _ _ _ _ _ _ _) ?_
     intro VF g kY
     have kn : Kept w3 VF [] := KK.out.trans kY (by intro x hx; simp at hx; exact .inr (by have := Hz8.out; omega))
     obtain ⟨R, N, L⟩ := off3 R N L Zz8 kY; obtain ⟨Rb, Nb, Lb⟩ := off3 Rb Nb Lb Zz8 kY
     have G7 := Lib.hid (kY.heap (by simp; exact HNE.out) G7.out)
     have G8 := g
     have KK := Lib.hid kn
     clear g kY kn
     refine hK.out _ _ KK.out (fun hHeld => ?_)
     clear hK KZ
     refine wpAnyH_done (by kernel_rfl) ?_ _
     clear hHeld
     go_wp2_with fail
     go_meet
     exact ⟨z7, z8, rfl, rfl, HNE, KK, ⟨k, tx, nx, id1, ops, evs, tn, tm, op, ta, nm, n, at1, ao, ao1, ae, ae1, ai, ai1, M, l, G7.out, R.out, L.out, HR.out, HE.out, HM.out⟩, ⟨kb, txb, nxb, id1b, opsb, evsb, tnb, tmb, opb, tab, nmb, nb, at1b, bo, bo1, be, be1, bi, bi1, Mb, lb, G8.out, Rb.out, Lb.out, HRb.out, HEb.out, HMb.out⟩⟩
    ·go_simp
     obtain ⟨z8, hz⟩ : ∃ z, z = V2.heap.size := ⟨_, rfl⟩
     obtain ⟨V5, hY⟩ : ∃ Y, Y = V2.alloc (.cells #[.int .u8 0, .int .i64 0, .int .i64 0, .int .i64 0, .slice none 0 0, .slice none 0 0, .int .i64 0, .int .i64 0, .slice none 0 0, .int .i64 0, .string ⟨#[]⟩, .int .i64 0, .int .i64 0] 35) := ⟨_, rfl⟩
     have kn : Kept V2 V5 [] := by rw [hY]; exact (Kept.refl V2 []).alloc _
     have b7 : V5.heap[z8]? = some (.cells #[.int .u8 0, .int .i64 0, .int .i64 0, .int .i64 0, .slice none 0 0, .slice none 0 0, .int .i64 0, .int .i64 0, .slice none 0 0, .int .i64 0, .string ⟨#[]⟩, .int .i64 0, .int .i64 0] 35 (0, 0)) := by rw [hY, hz]; exact heap_alloc_new V2 _
     rw [← hY, ← hz]
     have Hz8 : RowKit.Hid (w3.heap.size ≤ z8) := Lib.hid (by have := KK.out.size; omega)
     have R := Lib.hid (R.out.keep kn)
     have L := Lib.hid (LowN.keep L.out kn.size)
     have N := Lib.hid (NoEs.keep N.out kn)
     have Rb := Lib.hid (Rb.out.keep kn)
     have Lb := Lib.hid (LowN.keep Lb.out kn.size)
     have Nb := Lib.hid (NoEs.keep Nb.out kn)
     have KK : RowKit.Hid (Kept w3 V5 []) := Lib.hid (KK.out.trans kn (by simp))
     have Zz8 := Lib.hid b7
     clear hY hz kn b7
     refine hK.out _ _ KK.out (fun hHeld => ?_)
     clear hK KZ
     refine wpAnyH_ready (rs := [4]) (by kernel_rfl) (by simp) ?_
     refine (AllReadyH.cons (o := _) rfl (fun KZ hK => ?_) AllReadyH.nil)
     go_simp
     obtain ⟨z7, hz⟩ : ∃ z, z = V5.heap.size := ⟨_, rfl⟩
     obtain ⟨V6, hY⟩ : ∃ Y, Y = V5.alloc (.cells #[.int .u8 0, .int .i64 0, .int .i64 0, .int .i64 0, .slice none 0 0, .slice none 0 0, .int .i64 0, .int .i64 0, .slice none 0 0, .int .i64 0, .string ⟨#[]⟩, .int .i64 0, .int .i64 0] 35) := ⟨_, rfl⟩
     have kn : Kept V5 V6 [] := by rw [hY]; exact (Kept.refl V5 []).alloc _
     have b7 : V6.heap[z7]? = some (.cells #[.int .u8 0, .int .i64 0, .int .i64 0, .int .i64 0, .slice none 0 0, .slice none 0 0, .int .i64 0, .int .i64 0, .slice none 0 0, .int .i64 0, .string ⟨#[]⟩, .int .i64 0, .int .i64 0] 35 (0, 0)) := by rw [hY, hz]; exact heap_alloc_new V5 _
     rw [← hY, ← hz]
     have HNE : RowKit.Hid (z7 ≠ z8) := Lib.hid (by have := (Array.getElem?_eq_some_iff.1 Zz8.out).1; omega)
     have Hz7 : RowKit.Hid (w3.heap.size ≤ z7) := Lib.hid (by have := KK.out.size; omega)
     have R := Lib.hid (R.out.keep kn)
     have L := Lib.hid (LowN.keep L.out kn.size)
     have N := Lib.hid (NoEs.keep N.out kn)
     have Rb := Lib.hid (Rb.out.keep kn)
     have Lb := Lib.hid (LowN.keep Lb.out kn.size)
     have Nb := Lib.hid (NoEs.keep Nb.out kn)
     have Zz8 := Lib.hid (kn.heap (by simp) Zz8.out)
     have KK : RowKit.Hid (Kept w3 V6 []) := Lib.hid (KK.out.trans kn (by simp))
     have Zz7 := Lib.hid b7
     clear hY hz kn b7
     refine hK.out _ _ KK.out (fun hHeld => ?_)
     clear hK KZ
     refine wr1 6 rfl (fun KZ hK => ?_)
     refine step_row rfl 35 (.tmp 7) (.tmp 24) rfl z7 _ rfl rfl 35 _ Zz7.out (show (Try.prog.info? 35).map (·.size) = some 13 by kernel_rfl) rfl (one13 _ _ _ _ _ _ _ _ _ _ _ _ _ _ _ _ _ _ _) ?_
     intro VE g kY
     have kn : Kept w3 VE [] := KK.out.trans kY (by intro x hx; simp at hx; exact .inr (by have := Hz7.out; omega))
     obtain ⟨R, N, L⟩ := off3 R N L Zz7 kY; obtain ⟨Rb, Nb, Lb⟩ := off3 Rb Nb Lb Zz7 kY
     have Zz8 := Lib.hid (kY.heap (by simp; exact fun h => HNE.out h.symm) Zz8.out)
     have G7 := g
     have KK := Lib.hid kn
     clear g kY kn
     refine hK.out _ _ KK.out (fun hHeld => ?_)
     clear hK KZ
     refine wr1 7 rfl (fun KZ hK => ?_)
     refine step_row rfl 35 (.tmp 8) (.tmp 26) rfl z8 _ rfl rfl 35 _ Zz8.out (show (Try.prog.info? 35).map (·.size) = some 13 by kernel_rfl) rfl (one13 _ _ _ _ _ _ _ _ _ _ _ _ _ _ _ _ _ _ _) ?_
     intro VF g kY
     have kn : Kept w3 VF [] := KK.out.trans kY (by intro x hx; simp at hx; exact .inr (by have := Hz8.out; omega))
     obtain ⟨R, N, L⟩ := off3 R N L Zz8 kY; obtain ⟨Rb, Nb, Lb⟩ := off3 Rb Nb Lb Zz8 kY
     have G7 := Lib.hid (kY.heap (by simp; exact HNE.out) G7.out)
     have G8 := g
     have KK := Lib.hid kn
     clear g kY kn
     refine hK.out _ _ KK.out (fun hHeld => ?_)
     clear hK KZ
     refine wpAnyH_done (by kernel_rfl) ?_ _
     clear hHeld
     go_wp2_with fail
     go_meet
     exact ⟨z7, z8, rfl, rfl, HNE, KK, ⟨k, tx, nx, id1, ops, evs, tn, tm, op, ta, nm, n, at1, ao, ao1, ae, ae1, ai, ai1, M, l, G7.out, R.out, L.out, HR.out, HE.out, HM.out⟩, ⟨kb, txb, nxb, id1b, opsb, evsb, tnb, tmb, opb, tab, nmb, nb, at1b, bo, bo1, be, be1, bi, bi1, Mb, lb, G8.out, Rb.out, Lb.out, HRb.out, HEb.out, HMb.out⟩⟩
   ·go_simp
    obtain ⟨z7, hz⟩ : ∃ z, z = V1.heap.size := ⟨_, rfl⟩
    obtain ⟨V7, hY⟩ : ∃ Y, Y = V1.alloc (.cells #[.int .u8 0, .int .i64 0, .int .i64 0, .int .i64 0, .slice none 0 0, .slice none 0 0, .int .i64 0, .int .i64 0, .slice none 0 0, .int .i64 0, .string ⟨#[]⟩, .int .i64 0, .int .i64 0] 35) := ⟨_, rfl⟩
    have kn : Kept V1 V7 [] := by rw [hY]; exact (Kept.refl V1 []).alloc _
    have b7 : V7.heap[z7]? = some (.cells #[.int .u8 0, .int .i64 0, .int .i64 0, .int .i64 0, .slice none 0 0, .slice none 0 0, .int .i64 0, .int .i64 0, .slice none 0 0, .int .i64 0, .string ⟨#[]⟩, .int .i64 0, .int .i64 0] 35 (0, 0)) := by rw [hY, hz]; exact heap_alloc_new V1 _
    rw [← hY, ← hz]
    have Hz7 : RowKit.Hid (w3.heap.size ≤ z7) := Lib.hid (by have := KK.out.size; omega)
    have R := Lib.hid (R.out.keep kn)
    have L := Lib.hid (LowN.keep L.out kn.size)
    have N := Lib.hid (NoEs.keep N.out kn)
    have KK : RowKit.Hid (Kept w3 V7 []) := Lib.hid (KK.out.trans kn (by simp))
    have Zz7 := Lib.hid b7
    clear hY hz kn b7
    refine hK.out _ _ KK.out (fun hHeld => ?_)
    clear hK KZ
    refine wpAnyH_ready (rs := [3, 5]) (by kernel_rfl) (by simp) ?_
    refine (AllReadyH.cons (o := _) rfl (fun KZ hK => ?_) (AllReadyH.cons (o := _) rfl (fun KZ hK => ?_) AllReadyH.nil))
    ·go_simp
     go_at_call 11
     refine (HOFb.out _ (K3.out.trans KK.out (by simp))).mono ?_
     rintro ex V8 ⟨kb, txb, nxb, id1b, opsb, evsb, tnb, tmb, opb, tab, nmb, nb, at1b, bo, bo1, be, be1, bi, bi1, Mb, lb, rfl, rdn, lwn, hrn, _, hEn, hMn, kn⟩
     have R := Lib.hid (R.out.keep kn)
     have L := Lib.hid (LowN.keep L.out kn.size)
     have N := Lib.hid (NoEs.keep N.out kn)
     have Zz7 := Lib.hid (kn.heap (by simp) Zz7.out)
     have KK : RowKit.Hid (Kept w3 V8 []) := Lib.hid (KK.out.trans kn (by simp))
     have Rb := Lib.hid rdn; have Lb := Lib.hid lwn; have Nb := Lib.hid hMn.2; have HRb := Lib.hid hrn; have HEb := Lib.hid hEn; have HMb := Lib.hid hMn.1
     clear rdn lwn hrn hEn hMn kn
     go_wp2_with fail
     refine hK.out _ _ KK.out (fun hHeld => ?_)
     clear hK KZ
     refine wpAnyH_ready (rs := [5]) (by kernel_rfl) (by simp) ?_
     refine (AllReadyH.cons (o := _) rfl (fun KZ hK => ?_) AllReadyH.nil)
     go_simp
     obtain ⟨z8, hz⟩ : ∃ z, z = V8.heap.size := ⟨_, rfl⟩
     obtain ⟨V9, hY⟩ : ∃ Y, Y = V8.alloc (.cells #[.int .u8 0, .int .i64 0, .int .i64 0, .int .i64 0, .slice none 0 0, .slice none 0 0, .int .i64 0, .int .i64 0, .slice none 0 0, .int .i64 0, .string ⟨#[]⟩, .int .i64 0, .int .i64 0] 35) := ⟨_, rfl⟩
     have kn : Kept V8 V9 [] := by rw [hY]; exact (Kept.refl V8 []).alloc _
     have b7 : V9.heap[z8]? = some (.cells #[.int .u8 0, .int .i64 0, .int .i64 0, .int .i64 0, .slice none 0 0, .slice none 0 0, .int .i64 0, .int .i64 0, .slice none 0 0, .int .i64 0, .string ⟨#[]⟩, .int .i64 0, .int .i64 0] 35 (0, 0)) := by rw [hY, hz]; exact heap_alloc_new V8 _
     rw [← hY, ← hz]
     have HNE : RowKit.Hid (z7 ≠ z8) := Lib.hid (by have := (Array.getElem?_eq_some_iff.1 Zz7.out).1; omega)
     have Hz8 : RowKit.Hid (w3.heap.size ≤ z8) := Lib.hid (by have := KK.out.size; omega)
     have R := Lib.hid (R.out.keep kn)
     have L := Lib.hid (LowN.keep L.out kn.size)
     have N := Lib.hid (NoEs.keep N.out kn)
     have Zz7 := Lib.hid (kn.heap (by simp) Zz7.out)
     have Rb := Lib.hid (Rb.out.keep kn)
     have Lb := Lib.hid (LowN.keep Lb.out kn.size)
     have Nb := Lib.hid (NoEs.keep Nb.out kn)
     have KK : RowKit.Hid (Kept w3 V9 []) := Lib.hid (KK.out.trans kn (by simp))
     have Zz8 := Lib.hid b7
     clear hY hz kn b7
     refine hK.out _ _ KK.out (fun hHeld => ?_)
     clear hK KZ
     refine wr1 6 rfl (fun KZ hK => ?_)
     refine step_row rfl 35 (.tmp 7) (.tmp 24) rfl z7 _ rfl rfl 35 _ Zz7.out (show (Try.prog.info? 35).map (·.size) = some 13 by kernel_rfl) rfl (one13 _ _ _ _ _ _ _ _ _ _ _ _ _ _ _ _ _ _ _) ?_
     intro VE g kY
     have kn : Kept w3 VE [] := KK.out.trans kY (by intro x hx; simp at hx; exact .inr (by have := Hz7.out; omega))
     obtain ⟨R, N, L⟩ := off3 R N L Zz7 kY; obtain ⟨Rb, Nb, Lb⟩ := off3 Rb Nb Lb Zz7 kY
     have Zz8 := Lib.hid (kY.heap (by simp; exact fun h => HNE.out h.symm) Zz8.out)
     have G7 := g
     have KK := Lib.hid kn
     clear g kY kn
     refine hK.out _ _ KK.out (fun hHeld => ?_)
     clear hK KZ
     refine wr1 7 rfl (fun KZ hK => ?_)
     refine step_row rfl 35 (.tmp 8) (.tmp 26) rfl z8 _ rfl rfl 35 _ Zz8.out (show (Try.prog.info? 35).map (·.size) = some 13 by kernel_rfl) rfl (one13 _ _ _ _ _ _ _ _ _ _ _ _ _ _ _ _ _ _ _) ?_
     intro VF g kY
     have kn : Kept w3 VF [] := KK.out.trans kY (by intro x hx; simp at hx; exact .inr (by have := Hz8.out; omega))
     obtain ⟨R, N, L⟩ := off3 R N L Zz8 kY; obtain ⟨Rb, Nb, Lb⟩ := off3 Rb Nb Lb Zz8 kY
     have G7 := Lib.hid (kY.heap (by simp; exact HNE.out) G7.out)
     have G8 := g
     have KK := Lib.hid kn
     clear g kY kn
     refine hK.out _ _ KK.out (fun hHeld => ?_)
     clear hK KZ
     refine wpAnyH_done (by kernel_rfl) ?_ _
     clear hHeld
     go_wp2_with fail
     go_meet
     exact ⟨z7, z8, rfl, rfl, HNE, KK, ⟨k, tx, nx, id1, ops, evs, tn, tm, op, ta, nm, n, at1, ao, ao1, ae, ae1, ai, ai1, M, l, G7.out, R.out, L.out, HR.out, HE.out, HM.out⟩, ⟨kb, txb, nxb, id1b, opsb, evsb, tnb, tmb, opb, tab, nmb, nb, at1b, bo, bo1, be, be1, bi, bi1, Mb, lb, G8.out, Rb.out, Lb.out, HRb.out, HEb.out, HMb.out⟩⟩
    ·go_simp
     obtain ⟨z8, hz⟩ : ∃ z, z = V7.heap.size := ⟨_, rfl⟩
     obtain ⟨V10, hY⟩ : ∃ Y, Y = V7.alloc (.cells #[.int .u8 0, .int .i64 0, .int .i64 0, .int .i64 0, .slice none 0 0, .slice none 0 0, .int .i64 0, .int .i64 0, .slice none 0 0, .int .i64 0, .string ⟨#[]⟩, .int .i64 0, .int .i64 0] 35) := ⟨_, rfl⟩
     have kn : Kept V7 V10 [] := by rw [hY]; exact (Kept.refl V7 []).alloc _
     have b7 : V10.heap[z8]? = some (.cells #[.int .u8 0, .int .i64 0, .int .i64 0, .int .i64 0, .slice none 0 0, .slice none 0 0, .int .i64 0, .int .i64 0, .slice none 0 0, .int .i64 0, .string ⟨#[]⟩, .int .i64 0, .int .i64 0] 35 (0, 0)) := by rw [hY, hz]; exact heap_alloc_new V7 _
     rw [← hY, ← hz]
     have HNE : RowKit.Hid (z7 ≠ z8) := Lib.hid (by have := (Array.getElem?_eq_some_iff.1 Zz7.out).1; omega)
     have Hz8 : RowKit.Hid (w3.heap.size ≤ z8) := Lib.hid (by have := KK.out.size; omega)
     have R := Lib.hid (R.out.keep kn)
     have L := Lib.hid (LowN.keep L.out kn.size)
     have N := Lib.hid (NoEs.keep N.out kn)
     have Zz7 := Lib.hid (kn.heap (by simp) Zz7.out)
     have KK : RowKit.Hid (Kept w3 V10 []) := Lib.hid (KK.out.trans kn (by simp))
     have Zz8 := Lib.hid b7
     clear hY hz kn b7
     refine hK.out _ _ KK.out (fun hHeld => ?_)
     clear hK KZ
     refine wpAnyH_ready (rs := [3]) (by kernel_rfl) (by simp) ?_
     refine (AllReadyH.cons (o := _) rfl (fun KZ hK => ?_) AllReadyH.nil)
     go_simp
     go_at_call 11
     refine (HOFb.out _ (K3.out.trans KK.out (by simp))).mono ?_
     rintro ex V11 ⟨kb, txb, nxb, id1b, opsb, evsb, tnb, tmb, opb, tab, nmb, nb, at1b, bo, bo1, be, be1, bi, bi1, Mb, lb, rfl, rdn, lwn, hrn, _, hEn, hMn, kn⟩
     have R := Lib.hid (R.out.keep kn)
     have L := Lib.hid (LowN.keep L.out kn.size)
     have N := Lib.hid (NoEs.keep N.out kn)
     have Zz7 := Lib.hid (kn.heap (by simp) Zz7.out)
     have Zz8 := Lib.hid (kn.heap (by simp) Zz8.out)
     have KK : RowKit.Hid (Kept w3 V11 []) := Lib.hid (KK.out.trans kn (by simp))
     have Rb := Lib.hid rdn; have Lb := Lib.hid lwn; have Nb := Lib.hid hMn.2; have HRb := Lib.hid hrn; have HEb := Lib.hid hEn; have HMb := Lib.hid hMn.1
     clear rdn lwn hrn hEn hMn kn
     go_wp2_with fail
     refine hK.out _ _ KK.out (fun hHeld => ?_)
     clear hK KZ
     refine wr1 6 rfl (fun KZ hK => ?_)
     refine step_row rfl 35 (.tmp 7) (.tmp 24) rfl z7 _ rfl rfl 35 _ Zz7.out (show (Try.prog.info? 35).map (·.size) = some 13 by kernel_rfl) rfl (one13 _ _ _ _ _ _ _ _ _ _ _ _ _ _ _ _ _ _ _) ?_
     intro VE g kY
     have kn : Kept w3 VE [] := KK.out.trans kY (by intro x hx; simp at hx; exact .inr (by have := Hz7.out; omega))
     obtain ⟨R, N, L⟩ := off3 R N L Zz7 kY; obtain ⟨Rb, Nb, Lb⟩ := off3 Rb Nb Lb Zz7 kY
     have Zz8 := Lib.hid (kY.heap (by simp; exact fun h => HNE.out h.symm) Zz8.out)
     have G7 := g
     have KK := Lib.hid kn
     clear g kY kn
     refine hK.out _ _ KK.out (fun hHeld => ?_)
     clear hK KZ
     refine wr1 7 rfl (fun KZ hK => ?_)
     refine step_row rfl 35 (.tmp 8) (.tmp 26) rfl z8 _ rfl rfl 35 _ Zz8.out (show (Try.prog.info? 35).map (·.size) = some 13 by kernel_rfl) rfl (one13 _ _ _ _ _ _ _ _ _ _ _ _ _ _ _ _ _ _ _) ?_
     intro VF g kY
     have kn : Kept w3 VF [] := KK.out.trans kY (by intro x hx; simp at hx; exact .inr (by have := Hz8.out; omega))
     obtain ⟨R, N, L⟩ := off3 R N L Zz8 kY; obtain ⟨Rb, Nb, Lb⟩ := off3 Rb Nb Lb Zz8 kY
     have G7 := Lib.hid (kY.heap (by simp; exact HNE.out) G7.out)
     have G8 := g
     have KK := Lib.hid kn
     clear g kY kn
     refine hK.out _ _ KK.out (fun hHeld => ?_)
     clear hK KZ
     refine wpAnyH_done (by kernel_rfl) ?_ _
     clear hHeld
     go_wp2_with fail
     go_meet
     exact ⟨z7, z8, rfl, rfl, HNE, KK, ⟨k, tx, nx, id1, ops, evs, tn, tm, op, ta, nm, n, at1, ao, ao1, ae, ae1, ai, ai1, M, l, G7.out, R.out, L.out, HR.out, HE.out, HM.out⟩, ⟨kb, txb, nxb, id1b, opsb, evsb, tnb, tmb, opb, tab, nmb, nb, at1b, bo, bo1, be, be1, bi, bi1, Mb, lb, G8.out, Rb.out, Lb.out, HRb.out, HEb.out, HMb.out⟩⟩
   ·go_simp
    obtain ⟨z8, hz⟩ : ∃ z, z = V1.heap.size := ⟨_, rfl⟩
    obtain ⟨V12, hY⟩ : ∃ Y, Y = V1.alloc (.cells #[.int .u8 0, .int .i64 0, .int .i64 0, .int .i64 0, .slice none 0 0, .slice none 0 0, .int .i64 0, .int .i64 0, .slice none 0 0, .int .i64 0, .string ⟨#[]⟩, .int .i64 0, .int .i64 0] 35) := ⟨_, rfl⟩
    have kn : Kept V1 V12 [] := by rw [hY]; exact (Kept.refl V1 []).alloc _
    have b7 : V12.heap[z8]? = some (.cells #[.int .u8 0, .int .i64 0, .int .i64 0, .int .i64 0, .slice none 0 0, .slice none 0 0, .int .i64 0, .int .i64 0, .slice none 0 0, .int .i64 0, .string ⟨#[]⟩, .int .i64 0, .int .i64 0] 35 (0, 0)) := by rw [hY, hz]; exact heap_alloc_new V1 _
    rw [← hY, ← hz]
    have Hz8 : RowKit.Hid (w3.heap.size ≤ z8) := Lib.hid (by have := KK.out.size; omega)
    have R := Lib.hid (R.out.keep kn)
    have L := Lib.hid (LowN.keep L.out kn.size)
    have N := Lib.hid (NoEs.keep N.out kn)
    have KK : RowKit.Hid (Kept w3 V12 []) := Lib.hid (KK.out.trans kn (by simp))
    have Zz8 := Lib.hid b7
    clear hY hz kn b7
    refine hK.out _ _ KK.out (fun hHeld => ?_)
    clear hK KZ
    refine wpAnyH_ready (rs := [3, 4]) (by kernel_rfl) (by simp) ?_
    refine (AllReadyH.cons (o := _) rfl (fun KZ hK => ?_) (AllReadyH.cons (o := _) rfl (fun KZ hK => ?_) AllReadyH.nil))
    ·go_simp
     go_at_call 11
     refine (HOFb.out _ (K3.out.trans KK.out (by simp))).mono ?_
     rintro ex V13 ⟨kb, txb, nxb, id1b, opsb, evsb, tnb, tmb, opb, tab, nmb, nb, at1b, bo, bo1, be, be1, bi, bi1, Mb, lb, rfl, rdn, lwn, hrn, _, hEn, hMn, kn⟩
     have R := Lib.hid (R.out.keep kn)
     have L := Lib.hid (LowN.keep L.out kn.size)
     have N := Lib.hid (NoEs.keep N.out kn)
     have Zz8 := Lib.hid (kn.heap (by simp) Zz8.out)
     have KK : RowKit.Hid (Kept w3 V13 []) := Lib.hid (KK.out.trans kn (by simp))
     have Rb := Lib.hid rdn; have Lb := Lib.hid lwn; have Nb := Lib.hid hMn.2; have HRb := Lib.hid hrn; have HEb := Lib.hid hEn; have HMb := Lib.hid hMn.1
     clear rdn lwn hrn hEn hMn kn
     go_wp2_with fail
     refine hK.out _ _ KK.out (fun hHeld => ?_)
     clear hK KZ
     refine wpAnyH_ready (rs := [4]) (by kernel_rfl) (by simp) ?_
     refine (AllReadyH.cons (o := _) rfl (fun KZ hK => ?_) AllReadyH.nil)
     go_simp
     obtain ⟨z7, hz⟩ : ∃ z, z = V13.heap.size := ⟨_, rfl⟩
     obtain ⟨V14, hY⟩ : ∃ Y, Y = V13.alloc (.cells #[.int .u8 0, .int .i64 0, .int .i64 0, .int .i64 0, .slice none 0 0, .slice none 0 0, .int .i64 0, .int .i64 0, .slice none 0 0, .int .i64 0, .string ⟨#[]⟩, .int .i64 0, .int .i64 0] 35) := ⟨_, rfl⟩
     have kn : Kept V13 V14 [] := by rw [hY]; exact (Kept.refl V13 []).alloc _
     have b7 : V14.heap[z7]? = some (.cells #[.int .u8 0, .int .i64 0, .int .i64 0, .int .i64 0, .slice none 0 0, .slice none 0 0, .int .i64 0, .int .i64 0, .slice none 0 0, .int .i64 0, .string ⟨#[]⟩, .int .i64 0, .int .i64 0] 35 (0, 0)) := by rw [hY, hz]; exact heap_alloc_new V13 _
     rw [← hY, ← hz]
     have HNE : RowKit.Hid (z7 ≠ z8) := Lib.hid (by have := (Array.getElem?_eq_some_iff.1 Zz8.out).1; omega)
     have Hz7 : RowKit.Hid (w3.heap.size ≤ z7) := Lib.hid (by have := KK.out.size; omega)
     have R := Lib.hid (R.out.keep kn)
     have L := Lib.hid (LowN.keep L.out kn.size)
     have N := Lib.hid (NoEs.keep N.out kn)
     have Zz8 := Lib.hid (kn.heap (by simp) Zz8.out)
     have Rb := Lib.hid (Rb.out.keep kn)
     have Lb := Lib.hid (LowN.keep Lb.out kn.size)
     have Nb := Lib.hid (NoEs.keep Nb.out kn)
     have KK : RowKit.Hid (Kept w3 V14 []) := Lib.hid (KK.out.trans kn (by simp))
     have Zz7 := Lib.hid b7
     clear hY hz kn b7
     refine hK.out _ _ KK.out (fun hHeld => ?_)
     clear hK KZ
     refine wr1 6 rfl (fun KZ hK => ?_)
     refine step_row rfl 35 (.tmp 7) (.tmp 24) rfl z7 _ rfl rfl 35 _ Zz7.out (show (Try.prog.info? 35).map (·.size) = some 13 by kernel_rfl) rfl (one13 _ _ _ _ _ _ _ _ _ _ _ _ _ _ _ _ _ _ _) ?_
     intro VE g kY
     have kn : Kept w3 VE [] := KK.out.trans kY (by intro x hx; simp at hx; exact .inr (by have := Hz7.out; omega))
     obtain ⟨R, N, L⟩ := off3 R N L Zz7 kY; obtain ⟨Rb, Nb, Lb⟩ := off3 Rb Nb Lb Zz7 kY
     have Zz8 := Lib.hid (kY.heap (by simp; exact fun h => HNE.out h.symm) Zz8.out)
     have G7 := g
     have KK := Lib.hid kn
     clear g kY kn
     refine hK.out _ _ KK.out (fun hHeld => ?_)
     clear hK KZ
     refine wr1 7 rfl (fun KZ hK => ?_)
     refine step_row rfl 35 (.tmp 8) (.tmp 26) rfl z8 _ rfl rfl 35 _ Zz8.out (show (Try.prog.info? 35).map (·.size) = some 13 by kernel_rfl) rfl (one13 _ _ _ _ _ _ _ _ _ _ _ _ _ _ _ _ _ _ _) ?_
     intro VF g kY
     have kn : Kept w3 VF [] := KK.out.trans kY (by intro x hx; simp at hx; exact .inr (by have := Hz8.out; omega))
     obtain ⟨R, N, L⟩ := off3 R N L Zz8 kY; obtain ⟨Rb, Nb, Lb⟩ := off3 Rb Nb Lb Zz8 kY
     have G7 := Lib.hid (kY.heap (by simp; exact HNE.out) G7.out)
     have G8 := g
     have KK := Lib.hid kn
     clear g kY kn
     refine hK.out _ _ KK.out (fun hHeld => ?_)
     clear hK KZ
     refine wpAnyH_done (by kernel_rfl) ?_ _
     clear hHeld
     go_wp2_with fail
     go_meet
     exact ⟨z7, z8, rfl, rfl, HNE, KK, ⟨k, tx, nx, id1, ops, evs, tn, tm, op, ta, nm, n, at1, ao, ao1, ae, ae1, ai, ai1, M, l, G7.out, R.out, L.out, HR.out, HE.out, HM.out⟩, ⟨kb, txb, nxb, id1b, opsb, evsb, tnb, tmb, opb, tab, nmb, nb, at1b, bo, bo1, be, be1, bi, bi1, Mb, lb, G8.out, Rb.out, Lb.out, HRb.out, HEb.out, HMb.out⟩⟩
    ·go_simp
     obtain ⟨z7, hz⟩ : ∃ z, z = V12.heap.size := ⟨_, rfl⟩
     obtain ⟨V15, hY⟩ : ∃ Y, Y = V12.alloc (.cells #[.int .u8 0, .int .i64 0, .int .i64 0, .int .i64 0, .slice none 0 0, .slice none 0 0, .int .i64 0, .int .i64 0, .slice none 0 0, .int .i64 0, .string ⟨#[]⟩, .int .i64 0, .int .i64 0] 35) := ⟨_, rfl⟩
     have kn : Kept V12 V15 [] := by rw [hY]; exact (Kept.refl V12 []).alloc _
     have b7 : V15.heap[z7]? = some (.cells #[.int .u8 0, .int .i64 0, .int .i64 0, .int .i64 0, .slice none 0 0, .slice none 0 0, .int .i64 0, .int .i64 0, .slice none 0 0, .int .i64 0, .string ⟨#[]⟩, .int .i64 0, .int .i64 0] 35 (0, 0)) := by rw [hY, hz]; exact heap_alloc_new V12 _
     rw [← hY, ← hz]
     have HNE : RowKit.Hid (z7 ≠ z8) := Lib.hid (by have := (Array.getElem?_eq_some_iff.1 Zz8.out).1; omega)
     have Hz7 : RowKit.Hid (w3.heap.size ≤ z7) := Lib.hid (by have := KK.out.size; omega)
     have R := Lib.hid (R.out.keep kn)
     have L := Lib.hid (LowN.keep L.out kn.size)
     have N := Lib.hid (NoEs.keep N.out kn)
     have Zz8 := Lib.hid (kn.heap (by simp) Zz8.out)
     have KK : RowKit.Hid (Kept w3 V15 []) := Lib.hid (KK.out.trans kn (by simp))
     have Zz7 := Lib.hid b7
     clear hY hz kn b7
     refine hK.out _ _ KK.out (fun hHeld => ?_)
     clear hK KZ
     refine wpAnyH_ready (rs := [3]) (by kernel_rfl) (by simp) ?_
     refine (AllReadyH.cons (o := _) rfl (fun KZ hK => ?_) AllReadyH.nil)
     go_simp
     go_at_call 11
     refine (HOFb.out _ (K3.out.trans KK.out (by simp))).mono ?_
     rintro ex V16 ⟨kb, txb, nxb, id1b, opsb, evsb, tnb, tmb, opb, tab, nmb, nb, at1b, bo, bo1, be, be1, bi, bi1, Mb, lb, rfl, rdn, lwn, hrn, _, hEn, hMn, kn⟩
     have R := Lib.hid (R.out.keep kn)
     have L := Lib.hid (LowN.keep L.out kn.size)
     have N := Lib.hid (NoEs.keep N.out kn)
     have Zz8 := Lib.hid (kn.heap (by simp) Zz8.out)
     have Zz7 := Lib.hid (kn.heap (by simp) Zz7.out)
     have KK : RowKit.Hid (Kept w3 V16 []) := Lib.hid (KK.out.trans kn (by simp))
     have Rb := Lib.hid rdn; have Lb := Lib.hid lwn; have Nb := Lib.hid hMn.2; have HRb := Lib.hid hrn; have HEb := Lib.hid hEn; have HMb := Lib.hid hMn.1
     clear rdn lwn hrn hEn hMn kn
     go_wp2_with fail
     refine hK.out _ _ KK.out (fun hHeld => ?_)
     clear hK KZ
     refine wr1 6 rfl (fun KZ hK => ?_)
     refine step_row rfl 35 (.tmp 7) (.tmp 24) rfl z7 _ rfl rfl 35 _ Zz7.out (show (Try.prog.info? 35).map (·.size) = some 13 by kernel_rfl) rfl (one13 _ _ _ _ _ _ _ _ _ _ _ _ _ _ _ _ _ _ _) ?_
     intro VE g kY
     have kn : Kept w3 VE [] := KK.out.trans kY (by intro x hx; simp at hx; exact .inr (by have := Hz7.out; omega))
     obtain ⟨R, N, L⟩ := off3 R N L Zz7 kY; obtain ⟨Rb, Nb, Lb⟩ := off3 Rb Nb Lb Zz7 kY
     have Zz8 := Lib.hid (kY.heap (by simp; exact fun h => HNE.out h.symm) Zz8.out)
     have G7 := g
     have KK := Lib.hid kn
     clear g kY kn
     refine hK.out _ _ KK.out (fun hHeld => ?_)
     clear hK KZ
     refine wr1 7 rfl (fun KZ hK => ?_)
     refine step_row rfl 35 (.tmp 8) (.tmp 26) rfl z8 _ rfl rfl 35 _ Zz8.out (show (Try.prog.info? 35).map (·.size) = some 13 by kernel_rfl) rfl (one13 _ _ _ _ _ _ _ _ _ _ _ _ _ _ _ _ _ _ _) ?_
     intro VF g kY
     have kn : Kept w3 VF [] := KK.out.trans kY (by intro x hx; simp at hx; exact .inr (by have := Hz8.out; omega))
     obtain ⟨R, N, L⟩ := off3 R N L Zz8 kY; obtain ⟨Rb, Nb, Lb⟩ := off3 Rb Nb Lb Zz8 kY
     have G7 := Lib.hid (kY.heap (by simp; exact HNE.out) G7.out)
     have G8 := g
     have KK := Lib.hid kn
     clear g kY kn
     refine hK.out _ _ KK.out (fun hHeld => ?_)
     clear hK KZ
     refine wpAnyH_done (by kernel_rfl) ?_ _
     clear hHeld
     go_wp2_with fail
     go_meet
     exact ⟨z7, z8, rfl, rfl, HNE, KK, ⟨k, tx, nx, id1, ops, evs, tn, tm, op, ta, nm, n, at1, ao, ao1, ae, ae1, ai, ai1, M, l, G7.out, R.out, L.out, HR.out, HE.out, HM.out⟩, ⟨kb, txb, nxb, id1b, opsb, evsb, tnb, tmb, opb, tab, nmb, nb, at1b, bo, bo1, be, be1, bi, bi1, Mb, lb, G8.out, Rb.out, Lb.out, HRb.out, HEb.out, HMb.out⟩⟩
  ·go_simp
   obtain ⟨z7, hz⟩ : ∃ z, z = V0.heap.size := ⟨_, rfl⟩
   obtain ⟨V17, hY⟩ : ∃ Y, Y = V0.alloc (.cells #[.int .u8 0, .int .i64 0, .int .i64 0, .int .i64 0, .slice none 0 0, .slice none 0 0, .int .i64 0, .int .i64 0, .slice none 0 0, .int .i64 0, .string ⟨#[]⟩, .int .i64 0, .int .i64 0] 35) := ⟨_, rfl⟩
   have kn : Kept V0 V17 [] := by rw [hY]; exact (Kept.refl V0 []).alloc _
   have b7 : V17.heap[z7]? = some (.cells #[.int .u8 0, .int .i64 0, .int .i64 0, .int .i64 0, .slice none 0 0, .slice none 0 0, .int .i64 0, .int .i64 0, .slice none 0 0, .int .i64 0, .string ⟨#[]⟩, .int .i64 0, .int .i64 0] 35 (0, 0)) := by rw [hY, hz]; exact heap_alloc_new V0 _
   rw [← hY, ← hz]
   have Hz7 : RowKit.Hid (w3.heap.size ≤ z7) := Lib.hid (by have := KK.out.size; omega)
   have KK : RowKit.Hid (Kept w3 V17 []) := Lib.hid (KK.out.trans kn (by simp))
   have Zz7 := Lib.hid b7
   clear hY hz kn b7
   refine hK.out _ _ KK.out (fun hHeld => ?_)
   clear hK KZ
   refine wpAnyH_ready (rs := [1, 5]) (by kernel_rfl) (by simp) ?_
   refine (AllReadyH.cons (o := _) rfl (fun KZ hK => ?_) (AllReadyH.cons (o := _) rfl (fun KZ hK => ?_) AllReadyH.nil))
   ·go_simp
    go_at_call 11
    refine (HOF.out _ (K3.out.trans KK.out (by simp))).mono ?_
    rintro ex V18 ⟨k, tx, nx, id1, ops, evs, tn, tm, op, ta, nm, n, at1, ao, ao1, ae, ae1, ai, ai1, M, l, rfl, rdn, lwn, hrn, _, hEn, hMn, kn⟩
    have Zz7 := Lib.hid (kn.heap (by simp) Zz7.out)
    have KK : RowKit.Hid (Kept w3 V18 []) := Lib.hid (KK.out.trans kn (by simp))
    have R := Lib.hid rdn; have L := Lib.hid lwn; have N := Lib.hid hMn.2; have HR := Lib.hid hrn; have HE := Lib.hid hEn; have HM := Lib.hid hMn.1
    clear rdn lwn hrn hEn hMn kn
    go_wp2_with fail
    refine hK.out _ _ KK.out (fun hHeld => ?_)
    clear hK KZ
    refine wpAnyH_ready (rs := [3, 5]) (by kernel_rfl) (by simp) ?_
    refine (AllReadyH.cons (o := _) rfl (fun KZ hK => ?_) (AllReadyH.cons (o := _) rfl (fun KZ hK => ?_) AllReadyH.nil))
    ·go_simp
     go_at_call 11
     refine (HOFb.out _ (K3.out.trans KK.out (by simp))).mono ?_
     rintro ex V19 ⟨kb, txb, nxb, id1b, opsb, evsb, tnb, tmb, opb, tab, nmb, nb, at1b, bo, bo1, be, be1, bi, bi1, Mb, lb, rfl, rdn, lwn, hrn, _, hEn, hMn, kn⟩
     have Zz7 := Lib.hid (kn.heap (by simp) Zz7.out)
     have R := Lib.hid (R.out.keep kn)
     have L := Lib.hid (LowN.keep L.out kn.size)
     have N := Lib.hid (NoEs.keep N.out kn)
     have KK : RowKit.Hid (Kept w3 V19 []) := Lib.hid (KK.out.trans kn (by simp))
     have Rb := Lib.hid rdn; have Lb := Lib.hid lwn; have Nb := Lib.hid hMn.2; have HRb := Lib.hid hrn; have HEb := Lib.hid hEn; have HMb := Lib.hid hMn.1
     clear rdn lwn hrn hEn hMn kn
     go_wp2_with fail
     refine hK.out _ _ KK.out (fun hHeld => ?_)
     clear hK KZ
     refine wpAnyH_ready (rs := [5]) (by kernel_rfl) (by simp) ?_
     refine (AllReadyH.cons (o := _) rfl (fun KZ hK => ?_) AllReadyH.nil)
     go_simp
     obtain ⟨z8, hz⟩ : ∃ z, z = V19.heap.size := ⟨_, rfl⟩
     obtain ⟨V20, hY⟩ : ∃ Y, Y = V19.alloc (.cells #[.int .u8 0, .int .i64 0, .int .i64 0, .int .i64 0, .slice none 0 0, .slice none 0 0, .int .i64 0, .int .i64 0, .slice none 0 0, .int .i64 0, .string ⟨#[]⟩, .int .i64 0, .int .i64 0] 35) := ⟨_, rfl⟩
     have kn : Kept V19 V20 [] := by rw [hY]; exact (Kept.refl V19 []).alloc _
     have b7 : V20.heap[z8]? = some (.cells #[.int .u8 0, .int .i64 0, .int .i64 0, .int .i64 0, .slice none 0 0, .slice none 0 0, .int .i64 0, .int .i64 0, .slice none 0 0, .int .i64 0, .string ⟨#[]⟩, .int .i64 0, .int .i64 0] 35 (0, 0)) := by rw [hY, hz]; exact heap_alloc_new V19 _
     rw [← hY, ← hz]
     have HNE : RowKit.Hid (z7 ≠ z8) := Lib.hid (by have := (Array.getElem?_eq_some_iff.1 Zz7.out).1; omega)
     have Hz8 : RowKit.Hid (w3.heap.size ≤ z8) := Lib.hid (by have := KK.out.size; omega)
     have Zz7 := Lib.hid (kn.heap (by simp) Zz7.out)
     have R := Lib.hid (R.out.keep kn)
     have L := Lib.hid (LowN.keep L.out kn.size)
     have N := Lib.hid (NoEs.keep N.out kn)
     have Rb := Lib.hid (Rb.out.keep kn)
     have Lb := Lib.hid (LowN.keep Lb.out kn.size)
     have Nb := Lib.hid (NoEs.keep Nb.out kn)
     have KK : RowKit.Hid (Kept w3 V20 []) := Lib.hid (KK.out.trans kn (by simp))
     have Zz8 := Lib.hid b7
     clear hY hz kn b7
     refine hK.out _ _ KK.out (fun hHeld => ?_)
     clear hK KZ
     refine wr1 6 rfl (fun KZ hK => ?_)
     refine step_row rfl 35 (.tmp 7) (.tmp 24) rfl z7 _ rfl rfl 35 _ Zz7.out (show (Try.prog.info? 35).map (·.size) = some 13 by kernel_rfl) rfl (one13 _ _ _ _ _ _ _ _ _ _ _ _ _ _ _ _ _ _ _) ?_
     intro VE g kY
     have kn : Kept w3 VE [] := KK.out.trans kY (by intro x hx; simp at hx; exact .inr (by have := Hz7.out; omega))
     obtain ⟨R, N, L⟩ := off3 R N L Zz7 kY; obtain ⟨Rb, Nb, Lb⟩ := off3 Rb Nb Lb Zz7 kY
     have Zz8 := Lib.hid (kY.heap (by simp; exact fun h => HNE.out h.symm) Zz8.out)
     have G7 := g
     have KK := Lib.hid kn
     clear g kY kn
     refine hK.out _ _ KK.out (fun hHeld => ?_)
     clear hK KZ
     refine wr1 7 rfl (fun KZ hK => ?_)
     refine step_row rfl 35 (.tmp 8) (.tmp 26) rfl z8 _ rfl rfl 35 _ Zz8.out (show (Try.prog.info? 35).map (·.size) = some 13 by kernel_rfl) rfl (one13 _ _ _ _ _ _ _ _ _ _ _ _ _ _ _ _ _ _ _) ?_
     intro VF g kY
     have kn : Kept w3 VF [] := KK.out.trans kY (by intro x hx; simp at hx; exact .inr (by have := Hz8.out; omega))
     obtain ⟨R, N, L⟩ := off3 R N L Zz8 kY; obtain ⟨Rb, Nb, Lb⟩ := off3 Rb Nb Lb Zz8 kY
     have G7 := Lib.hid (kY.heap (by simp; exact HNE.out) G7.out)
     have G8 := g
     have KK := Lib.hid kn
     clear g kY kn
     refine hK.out _ _ KK.out (fun hHeld => ?_)
     clear hK KZ
     refine wpAnyH_done (by kernel_rfl) ?_ _
     clear hHeld
     go_wp2_with fail
     go_meet
     exact ⟨z7, z8, rfl, rfl, HNE, KK, ⟨k, tx, nx, id1, ops, evs, tn, tm, op, ta, nm, n, at1, ao, ao1, ae, ae1, ai, ai1, M, l, G7.out, R.out, L.out, HR.out, HE.out, HM.out⟩, ⟨kb, txb, nxb, id1b, opsb, evsb, tnb, tmb, opb, tab, nmb, nb, at1b, bo, bo1, be, be1, bi, bi1, Mb, lb, G8.out, Rb.out, Lb.out, HRb.out, HEb.out, HMb.out⟩⟩
    ·go_simp
     obtain ⟨z8, hz⟩ : ∃ z, z = V18.heap.size := ⟨_, rfl⟩
     obtain ⟨V21, hY⟩ : ∃ Y, Y = V18.alloc (.cells #[.int .u8 0, .int .i64 0, .int .i64 0, .int .i64 0, .slice none 0 0, .slice none 0 0, .int .i64 0, .int .i64 0, .slice none 0 0, .int .i64 0, .string ⟨#[]⟩, .int .i64 0, .int .i64 0] 35) := ⟨_, rfl⟩
     have kn : Kept V18 V21 [] := by rw [hY]; exact (Kept.refl V18 []).alloc _
     have b7 : V21.heap[z8]? = some (.cells #[.int .u8 0, .int .i64 0, .int .i64 0, .int .i64 0, .slice none 0 0, .slice none 0 0, .int .i64 0, .int .i64 0, .slice none 0 0, .int .i64 0, .string ⟨#[]⟩, .int .i64 0, .int .i64 0] 35 (0, 0)) := by rw [hY, hz]; exact heap_alloc_new V18 _
     rw [← hY, ← hz]
     have HNE : RowKit.Hid (z7 ≠ z8) := Lib.hid (by have := (Array.getElem?_eq_some_iff.1 Zz7.out).1; omega)
     have Hz8 : RowKit.Hid (w3.heap.size ≤ z8) := Lib.hid (by have := KK.out.size; omega)
     have Zz7 := Lib.hid (kn.heap (by simp) Zz7.out)
     have R := Lib.hid (R.out.keep kn)
     have L := Lib.hid (LowN.keep L.out kn.size)
     have N := Lib.hid (NoEs.keep N.out kn)
     have KK : RowKit.Hid (Kept w3 V21 []) := Lib.hid (KK.out.trans kn (by simp))
     have Zz8 := Lib.hid b7
     clear hY hz kn b7
     refine hK.out _ _ KK.out (fun hHeld => ?_)
     clear hK KZ
     refine wpAnyH_ready (rs := [3]) (by kernel_rfl) (by simp) ?_
     refine (AllReadyH.cons (o := _) rfl (fun KZ hK => ?_) AllReadyH.nil)
     go_simp
     go_at_call 11
     refine (HOFb.out _ (K3.out.trans KK.out (by simp))).mono ?_
     rintro ex V22 ⟨kb, txb, nxb, id1b, opsb, evsb, tnb, tmb, opb, tab, nmb, nb, at1b, bo, bo1, be, be1, bi, bi1, Mb, lb, rfl, rdn, lwn, hrn, _, hEn, hMn, kn⟩
     have Zz7 := Lib.hid (kn.heap (by simp) Zz7.out)
     have R := Lib.hid (R.out.keep kn)
     have L := Lib.hid (LowN.keep L.out kn.size)
     have N := Lib.hid (NoEs.keep N.out kn)
     have Zz8 := Lib.hid (kn.heap (by simp) Zz8.out)
     have KK : RowKit.Hid (Kept w3 V22 []) := Lib.hid (KK.out.trans kn (by simp))
     have Rb := Lib.hid rdn; have Lb := Lib.hid lwn; have Nb := Lib.hid hMn.2; have HRb := Lib.hid hrn; have HEb := Lib.hid hEn; have HMb := Lib.hid hMn.1
     clear rdn lwn hrn hEn hMn kn
     go_wp2_with fail
     refine hK.out _ _ KK.out (fun hHeld => ?_)
     clear hK KZ
     refine wr1 6 rfl (fun KZ hK => ?_)
     refine step_row rfl 35 (.tmp 7) (.tmp 24) rfl z7 _ rfl rfl 35 _ Zz7.out (show (Try.prog.info? 35).map (·.size) = some 13 by kernel_rfl) rfl (one13 _ _ _ _ _ _ _ _ _ _ _ _ _ _ _ _ _ _ _) ?_
     intro VE g kY
     have kn : Kept w3 VE [] := KK.out.trans kY (by intro x hx; simp at hx; exact .inr (by have := Hz7.out; omega))
     obtain ⟨R, N, L⟩ := off3 R N L Zz7 kY; obtain ⟨Rb, Nb, Lb⟩ := off3 Rb Nb Lb Zz7 kY
     have Zz8 := Lib.hid (kY.heap (by simp; exact fun h => HNE.out h.symm) Zz8.out)
     have G7 := g
     have KK := Lib.hid kn
     clear g kY kn
     refine hK.out _ _ KK.out (fun hHeld => ?_)
     clear hK KZ
     refine wr1 7 rfl (fun KZ hK => ?_)
     refine step_row rfl 35 (.tmp 8) (.tmp 26) rfl z8 _ rfl rfl 35 _ Zz8.out (show (Try.prog.info? 35).map (·.size) = some 13 by kernel_rfl) rfl (one13 _ _ _ _ _ _ _ _ _ _ _ _ _ _ _ _ _ _ _) ?_
     intro VF g kY
     have kn : Kept w3 VF [] := KK.out.trans kY (by intro x hx; simp at hx; exact .inr (by have := Hz8.out; omega))
     obtain ⟨R, N, L⟩ := off3 R N L Zz8 kY; obtain ⟨Rb, Nb, Lb⟩ := off3 Rb Nb Lb Zz8 kY
     have G7 := Lib.hid (kY.heap (by simp; exact HNE.out) G7.out)
     have G8 := g
     have KK := Lib.hid kn
     clear g kY kn
     refine hK.out _ _ KK.out (fun hHeld => ?_)
     clear hK KZ
     refine wpAnyH_done (by kernel_rfl) ?_ _
     clear hHeld
     go_wp2_with fail
     go_meet
     exact ⟨z7, z8, rfl, rfl, HNE, KK, ⟨k, tx, nx, id1, ops, evs, tn, tm, op, ta, nm, n, at1, ao, ao1, ae, ae1, ai, ai1, M, l, G7.out, R.out, L.out, HR.out, HE.out, HM.out⟩, ⟨kb, txb, nxb, id1b, opsb, evsb, tnb, tmb, opb, tab, nmb, nb, at1b, bo, bo1, be, be1, bi, bi1, Mb, lb, G8.out, Rb.out, Lb.out, HRb.out, HEb.out, HMb.out⟩⟩
   ·go_simp
    obtain ⟨z8, hz⟩ : ∃ z, z = V17.heap.size := ⟨_, rfl⟩
    obtain ⟨V23, hY⟩ : ∃ Y, Y = V17.alloc (.cells #[.int .u8 0, .int .i64 0, .int .i64 0, .int .i64 0, .slice none 0 0, .slice none 0 0, .int .i64 0, .int .i64 0, .slice none 0 0, .int .i64 0, .string ⟨#[]⟩, .int .i64 0, .int .i64 0] 35) := ⟨_, rfl⟩
    have kn : Kept V17 V23 [] := by rw [hY]; exact (Kept.refl V17 []).alloc _
    have b7 : V23.heap[z8]? = some (.cells #[.int .u8 0, .int .i64 0, .int .i64 0, .int .i64 0, .slice none 0 0, .slice none 0 0, .int .i64 0, .int .i64 0, .slice none 0 0, .int .i64 0, .string ⟨#[]⟩, .int .i64 0, .int .i64 0] 35 (0, 0)) := by rw [hY, hz]; exact heap_alloc_new V17 _
    rw [← hY, ← hz]
    have HNE : RowKit.Hid (z7 ≠ z8) := Lib.hid (by have := (Array.getElem?_eq_some_iff.1 Zz7.out).1; omega)
    have Hz8 : RowKit.Hid (w3.heap.size ≤ z8) := Lib.hid (by have := KK.out.size; omega)
    have Zz7 := Lib.hid (kn.heap (by simp) Zz7.out)
    have KK : RowKit.Hid (Kept w3 V23 []) := Lib.hid (KK.out.trans kn (by simp))
    have Zz8 := Lib.hid b7
    clear hY hz kn b7
    refine hK.out _ _ KK.out (fun hHeld => ?_)
    clear hK KZ
    refine wpAnyH_ready (rs := [1]) (by kernel_rfl) (by simp) ?_
    refine (AllReadyH.cons (o := _) rfl (fun KZ hK => ?_) AllReadyH.nil)
    go_simp
    go_at_call 11
    refine (HOF.out _ (K3.out.trans KK.out (by simp))).mono ?_
    rintro ex V24 ⟨k, tx, nx, id1, ops, evs, tn, tm, op, ta, nm, n, at1, ao, ao1, ae, ae1, ai, ai1, M, l, rfl, rdn, lwn, hrn, _, hEn, hMn, kn⟩
    have Zz7 := Lib.hid (kn.heap (by simp) Zz7.out)
    have Zz8 := Lib.hid (kn.heap (by simp) Zz8.out)
    have KK : RowKit.Hid (Kept w3 V24 []) := Lib.hid (KK.out.trans kn (by simp))
    have R := Lib.hid rdn; have L := Lib.hid lwn; have N := Lib.hid hMn.2; have HR := Lib.hid hrn; have HE := Lib.hid hEn; have HM := Lib.hid hMn.1
    clear rdn lwn hrn hEn hMn kn
    go_wp2_with fail
    refine hK.out _ _ KK.out (fun hHeld => ?_)
    clear hK KZ
    refine wpAnyH_ready (rs := [3]) (by kernel_rfl) (by simp) ?_
    refine (AllReadyH.cons (o := _) rfl (fun KZ hK => ?_) AllReadyH.nil)
    go_simp
    go_at_call 11
    refine (HOFb.out _ (K3.out.trans KK.out (by simp))).mono ?_
    rintro ex V25 ⟨kb, txb, nxb, id1b, opsb, evsb, tnb, tmb, opb, tab, nmb, nb, at1b, bo, bo1, be, be1, bi, bi1, Mb, lb, rfl, rdn, lwn, hrn, _, hEn, hMn, kn⟩
    have Zz7 := Lib.hid (kn.heap (by simp) Zz7.out)
    have Zz8 := Lib.hid (kn.heap (by simp) Zz8.out)
    have R := Lib.hid (R.out.keep kn)
    have L := Lib.hid (LowN.keep L.out kn.size)
    have N := Lib.hid (NoEs.keep N.out kn)
    have KK : RowKit.Hid (Kept w3 V25 []) := Lib.hid (KK.out.trans kn (by simp))
    have Rb := Lib.hid rdn; have Lb := Lib.hid lwn; have Nb := Lib.hid hMn.2; have HRb := Lib.hid hrn; have HEb := Lib.hid hEn; have HMb := Lib.hid hMn.1
    clear rdn lwn hrn hEn hMn kn
    go_wp2_with fail
    refine hK.out _ _ KK.out (fun hHeld => ?_)
    clear hK KZ
    refine wr1 6 rfl (fun KZ hK => ?_)
    refine step_row rfl 35 (.tmp 7) (.tmp 24) rfl z7 _ rfl rfl 35 _ Zz7.out (show (Try.prog.info? 35).map (·.size) = some 13 by kernel_rfl) rfl (one13 _ _ _ _ _ _ _ _ _ _ _ _ _ _ _ _ _ _ _) ?_
    intro VE g kY
    have kn : Kept w3 VE [] := KK.out.trans kY (by intro x hx; simp at hx; exact .inr (by have := Hz7.out; omega))
    obtain ⟨R, N, L⟩ := off3 R N L Zz7 kY; obtain ⟨Rb, Nb, Lb⟩ := off3 Rb Nb Lb Zz7 kY
    have Zz8 := Lib.hid (kY.heap (by simp; exact fun h => HNE.out h.symm) Zz8.out)
    have G7 := g
    have KK := Lib.hid kn
    clear g kY kn
    refine hK.out _ _ KK.out (fun hHeld => ?_)
    clear hK KZ
    refine wr1 7 rfl (fun KZ hK => ?_)
    refine step_row rfl 35 (.tmp 8) (.tmp 26) rfl z8 _ rfl rfl 35 _ Zz8.out (show (Try.prog.info? 35).map (·.size) = some 13 by kernel_rfl) rfl (one13 _ _ _ _ _ _ _ _ _ _ _ _ _ _ _ _ _ _ _) ?_
    intro VF g kY
    have kn : Kept w3 VF [] := KK.out.trans kY (by intro x hx; simp at hx; exact .inr (by have := Hz8.out; omega))
    obtain ⟨R, N, L⟩ := off3 R N L Zz8 kY; obtain ⟨Rb, Nb, Lb⟩ := off3 Rb Nb Lb Zz8 kY
    have G7 := Lib.hid (kY.heap (by simp; exact HNE.out) G7.out)
    have G8 := g
    have KK := Lib.hid kn
    clear g kY kn
    refine hK.out _ _ KK.out (fun hHeld => ?_)
    clear hK KZ
    refine wpAnyH_done (by kernel_rfl) ?_ _
    clear hHeld
    go_wp2_with fail
    go_meet
    exact ⟨z7, z8, rfl, rfl, HNE, KK, ⟨k, tx, nx, id1, ops, evs, tn, tm, op, ta, nm, n, at1, ao, ao1, ae, ae1, ai, ai1, M, l, G7.out, R.out, L.out, HR.out, HE.out, HM.out⟩, ⟨kb, txb, nxb, id1b, opsb, evsb, tnb, tmb, opb, tab, nmb, nb, at1b, bo, bo1, be, be1, bi, bi1, Mb, lb, G8.out, Rb.out, Lb.out, HRb.out, HEb.out, HMb.out⟩⟩
  ·go_simp
   obtain ⟨z8, hz⟩ : ∃ z, z = V0.heap.size := ⟨_, rfl⟩
   obtain ⟨V26, hY⟩ : ∃ Y, Y = V0.alloc (.cells #[.int .u8 0, .int .i64 0, .int .i64 0, .int .i64 0, .slice none 0 0, .slice none 0 0, .int .i64 0, .int .i64 0, .slice none 0 0, .int .i64 0, .string ⟨#[]⟩, .int .i64 0, .int .i64 0] 35) := ⟨_, rfl⟩
   have kn : Kept V0 V26 [] := by rw [hY]; exact (Kept.refl V0 []).alloc _
   have b7 : V26.heap[z8]? = some (.cells #[.int .u8 0, .int .i64 0, .int .i64 0, .int .i64 0, .slice none 0 0, .slice none 0 0, .int .i64 0, .int .i64 0, .slice none 0 0, .int .i64 0, .string ⟨#[]⟩, .int .i64 0, .int .i64 0] 35 (0, 0)) := by rw [hY, hz]; exact heap_alloc_new V0 _
   rw [← hY, ← hz]
   have Hz8 : RowKit.Hid (w3.heap.size ≤ z8) := Lib.hid (by have := KK.out.size; omega)
   have KK : RowKit.Hid (Kept w3 V26 []) := Lib.hid (KK.out.trans kn (by simp))
   have Zz8 := Lib.hid b7
   clear hY hz kn b7
   refine hK.out _ _ KK.out (fun hHeld => ?_)
   clear hK KZ
   refine wpAnyH_ready (rs := [1, 4]) (by kernel_rfl) (by simp) ?_
   refine (AllReadyH.cons (o := _) rfl (fun KZ hK => ?_) (AllReadyH.cons (o := _) rfl (fun KZ hK => ?_) AllReadyH.nil))
   ·go_simp
    go_at_call 11
    refine (HOF.out _ (K3.out.trans KK.out (by simp))).mono ?_
    rintro ex V27 ⟨k, tx, nx, id1, ops, evs, tn, tm, op, ta, nm, n, at1, ao, ao1, ae, ae1, ai, ai1, M, l, rfl, rdn, lwn, hrn, _, hEn, hMn, kn⟩
    have Zz8 := Lib.hid (kn.heap (by simp) Zz8.out)
    have KK : RowKit.Hid (Kept w3 V27 []) := Lib.hid (KK.out.trans kn (by simp))
    have R := Lib.hid rdn; have L := Lib.hid lwn; have N := Lib.hid hMn.2; have HR := Lib.hid hrn; have HE := Lib.hid hEn; have HM := Lib.hid hMn.1
    clear rdn lwn hrn hEn hMn kn
    go_wp2_with fail
    refine hK.out _ _ KK.out (fun hHeld => ?_)
    clear hK KZ
    refine wpAnyH_ready (rs := [3, 4]) (by kernel_rfl) (by simp) ?_
    refine (AllReadyH.cons (o := _) rfl (fun KZ hK => ?_) (AllReadyH.cons (o := _) rfl (fun KZ hK => ?_) AllReadyH.nil))
    ·go_simp
     go_at_call 11
     refine (HOFb.out _ (K3.out.trans KK.out (by simp))).mono ?_
     rintro ex V28 ⟨kb, txb, nxb, id1b, opsb, evsb, tnb, tmb, opb, tab, nmb, nb, at1b, bo, bo1, be, be1, bi, bi1, Mb, lb, rfl, rdn, lwn, hrn, _, hEn, hMn, kn⟩
     have Zz8 := Lib.hid (kn.heap (by simp) Zz8.out)
     have R := Lib.hid (R.out.keep kn)
     have L := Lib.hid (LowN.keep L.out kn.size)
     have N := Lib.hid (NoEs.keep N.out kn)
     have KK : RowKit.Hid (Kept w3 V28 []) := Lib.hid (KK.out.trans kn (by simp))
     have Rb := Lib.hid rdn; have Lb := Lib.hid lwn; have Nb := Lib.hid hMn.2; have HRb := Lib.hid hrn; have HEb := Lib.hid hEn; have HMb := Lib.hid hMn.1
     clear rdn lwn hrn hEn hMn kn
     go_wp2_with fail
     refine hK.out _ _ KK.out (fun hHeld => ?_)
     clear hK KZ
     refine wpAnyH_ready (rs := [4]) (by kernel_rfl) (by simp) ?_
     refine (AllReadyH.cons (o := _) rfl (fun KZ hK => ?_) AllReadyH.nil)
     go_simp
     obtain ⟨z7, hz⟩ : ∃ z, z = V28.heap.size := ⟨_, rfl⟩
     obtain ⟨V29, hY⟩ : ∃ Y, Y = V28.alloc (.cells #[.int .u8 0, .int .i64 0, .int .i64 0, .int .i64 0, .slice none 0 0, .slice none 0 0, .int .i64 0, .int .i64 0, .slice none 0 0, .int .i64 0, .string ⟨#[]⟩, .int .i64 0, .int .i64 0] 35) := ⟨_, rfl⟩
     have kn : Kept V28 V29 [] := by rw [hY]; exact (Kept.refl V28 []).alloc _
     have b7 : V29.heap[z7]? = some (.cells #[.int .u8 0, .int .i64 0, .int .i64 0, .int .i64 0, .slice none 0 0, .slice none 0 0, .int .i64 0, .int .i64 0, .slice none 0 0, .int .i64 0, .string ⟨#[]⟩, .int .i64 0, .int .i64 0] 35 (0, 0)) := by rw [hY, hz]; exact heap_alloc_new V28 _
     rw [← hY, ← hz]
     have HNE : RowKit.Hid (z7 ≠ z8) := Lib.hid (by have := (Array.getElem?_eq_some_iff.1 Zz8.out).1; omega)
     have Hz7 : RowKit.Hid (w3.heap.size ≤ z7) := Lib.hid (by have := KK.out.size; omega)
     have Zz8 := Lib.hid (kn.heap (by simp) Zz8.out)
     have R := Lib.hid (R.out.keep kn)
     have L := Lib.hid (LowN.keep L.out kn.size)
     have N := Lib.hid (NoEs.keep N.out kn)
     have Rb := Lib.hid (Rb.out.keep kn)
     have Lb := Lib.hid (LowN.keep Lb.out kn.size)
     have Nb := Lib.hid (NoEs.keep Nb.out kn)
     have KK : RowKit.Hid (Kept w3 V29 []) := Lib.hid (KK.out.trans kn (by simp))
     have Zz7 := Lib.hid b7
     clear hY hz kn b7
     refine hK.out _ _ KK.out (fun hHeld => ?_)
     clear hK KZ
     refine wr1 6 rfl (fun KZ hK => ?_)
     refine step_row rfl 35 (.tmp 7) (.tmp 24) rfl z7 _ rfl rfl 35 _ Zz7.out (show (Try.prog.info? 35).map (·.size) = some 13 by kernel_rfl) rfl (one13 _ _ _ _ _ _ _ _ _ _ _ _ _ _ _ _ _ _ _) ?_
     intro VE g kY
     have kn : Kept w3 VE [] := KK.out.trans kY (by intro x hx; simp at hx; exact .inr (by have := Hz7.out; omega))
     obtain ⟨R, N, L⟩ := off3 R N L Zz7 kY; obtain ⟨Rb, Nb, Lb⟩ := off3 Rb Nb Lb Zz7 kY
     have Zz8 := Lib.hid (kY.heap (by simp; exact fun h => HNE.out h.symm) Zz8.out)
     have G7 := g
     have KK := Lib.hid kn
     clear g kY kn
     refine hK.out _ _ KK.out (fun hHeld => ?_)
     clear hK KZ
     refine wr1 7 rfl (fun KZ hK => ?_)
     refine step_row rfl 35 (.tmp 8) (.tmp 26) rfl z8 _ rfl rfl 35 _ Zz8.out (show (Try.prog.info? 35).map (·.size) = some 13 by kernel_rfl) rfl (one13 _ _ _ _ _ _ _ _ _ _ _ _ _ _ _ _ _ _ _) ?_
     intro VF g kY
     have kn : Kept w3 VF [] := KK.out.trans kY (by intro x hx; simp at hx; exact .inr (by have := Hz8.out; omega))
     obtain ⟨R, N, L⟩ := off3 R N L Zz8 kY; obtain ⟨Rb, Nb, Lb⟩ := off3 Rb Nb Lb Zz8 kY
     have G7 := Lib.hid (kY.heap (by simp; exact HNE.out) G7.out)
     have G8 := g
     have KK := Lib.hid kn
     clear g kY kn
     refine hK.out _ _ KK.out (fun hHeld => ?_)
     clear hK KZ
     refine wpAnyH_done (by kernel_rfl) ?_ _
     clear hHeld
     go_wp2_with fail
     go_meet
     exact ⟨z7, z8, rfl, rfl, HNE, KK, ⟨k, tx, nx, id1, ops, evs, tn, tm, op, ta, nm, n, at1, ao, ao1, ae, ae1, ai, ai1, M, l, G7.out, R.out, L.out, HR.out, HE.out, HM.out⟩, ⟨kb, txb, nxb, id1b, opsb, evsb, tnb, tmb, opb, tab, nmb, nb, at1b, bo, bo1, be, be1, bi, bi1, Mb, lb, G8.out, Rb.out, Lb.out, HRb.out, HEb.out, HMb.out⟩⟩
    ·go_simp
     obtain ⟨z7, hz⟩ : ∃ z, z = V27.heap.size := ⟨_, rfl⟩
     obtain ⟨V30, hY⟩ : ∃ Y, Y = V27.alloc (.cells #[.int .u8 0, .int .i64 0, .int .i64 0, .int .i64 0, .slice none 0 0, .slice none 0 0, .int .i64 0, .int .i64 0, .slice none 0 0, .int .i64 0, .string ⟨#[]⟩, .int .i64 0, .int .i64 0] 35) := ⟨_, rfl⟩
     have kn : Kept V27 V30 [] := by rw [hY]; exact (Kept.refl V27 []).alloc _
     have b7 : V30.heap[z7]? = some (.cells #[.int .u8 0, .int .i64 0, .int .i64 0, .int .i64 0, .slice none 0 0, .slice none 0 0, .int .i64 0, .int .i64 0, .slice none 0 0, .int .i64 0, .string ⟨#[]⟩, .int .i64 0, .int .i64 0] 35 (0, 0)) := by rw [hY, hz]; exact heap_alloc_new V27 _
     rw [← hY, ← hz]
     have HNE : RowKit.Hid (z7 ≠ z8) := Lib.hid (by have := (Array.getElem?_eq_some_iff.1 Zz8.out).1; omega)
     have Hz7 : RowKit.Hid (w3.heap.size ≤ z7) := Lib.hid (by have := KK.out.size; omega)
     have Zz8 := Lib.hid (kn.heap (by simp) Zz8.out)
     have R := Lib.hid (R.out.keep kn)
     have L := Lib.hid (LowN.keep L.out kn.size)
     have N := Lib.hid (NoEs.keep N.out kn)
     have KK : RowKit.Hid (Kept w3 V30 []) := Lib.hid (KK.out.trans kn (by simp))
     have Zz7 := Lib.hid b7
     clear hY hz kn b7
     refine hK.out _ _ KK.out (fun hHeld => ?_)
     clear hK KZ
     refine wpAnyH_ready (rs := [3]) (by kernel_rfl) (by simp) ?_
     refine (AllReadyH.cons (o := _) rfl (fun KZ hK => ?_) AllReadyH.nil)
     go_simp
     go_at_call 11
     refine (HOFb.out _ (K3.out.trans KK.out (by simp))).mono ?_
     rintro ex V31 ⟨kb, txb, nxb, id1b, opsb, evsb, tnb, tmb, opb, tab, nmb, nb, at1b, bo, bo1, be, be1, bi, bi1, Mb, lb, rfl, rdn, lwn, hrn, _, hEn, hMn, kn⟩
     have Zz8 := Lib.hid (kn.heap (by simp) Zz8.out)
     have R := Lib.hid (R.out.keep kn)
     have L := Lib.hid (LowN.keep L.out kn.size)
     have N := Lib.hid (NoEs.keep N.out kn)
     have Zz7 := Lib.hid (kn.heap (by simp) Zz7.out)
     have KK : RowKit.Hid (Kept w3 V31 []) := Lib.hid (KK.out.trans kn (by simp))
     have Rb := Lib.hid rdn; have Lb := Lib.hid lwn; have Nb := Lib.hid hMn.2; have HRb := Lib.hid hrn; have HEb := Lib.hid hEn; have HMb := Lib.hid hMn.1
     clear rdn lwn hrn hEn hMn kn
     go_wp2_with fail
     refine hK.out _ _ KK.out (fun hHeld => ?_)
     clear hK KZ
     refine wr1 6 rfl (fun KZ hK => ?_)
     refine step_row rfl 35 (.tmp 7) (.tmp 24) rfl z7 _ rfl rfl 35 _ Zz7.out (show (Try.prog.info? 35).map (·.size) = some 13 by kernel_rfl) rfl (one13 _ _ _ _ _ _ _ _ _ _ _ _ _ _ _ _ _ _ _) ?_
     intro VE g kY
     have kn : Kept w3 VE [] := KK.out.trans kY (by intro x hx; simp at hx; exact .inr (by have := Hz7.out; omega))
     obtain ⟨R, N, L⟩ := off3 R N L Zz7 kY; obtain ⟨Rb, Nb, Lb⟩ := off3 Rb Nb Lb Zz7 kY
     have Zz8 := Lib.hid (kY.heap (by simp; exact fun h => HNE.out h.symm) Zz8.out)
     have G7 := g
     have KK := Lib.hid kn
     clear g kY kn
     refine hK.out _ _ KK.out (fun hHeld => ?_)
     clear hK KZ
     refine wr1 7 rfl (fun KZ hK => ?_)
     refine step_row rfl 35 (.tmp 8) (.tmp 26) rfl z8 _ rfl rfl 35 _ Zz8.out (show (Try.prog.info? 35).map (·.size) = some 13 by kernel_rfl) rfl (one13 _ _ _ _ _ _ _ _ _ _ _ _ _ _ _ _ _ _ _) ?_
     intro VF g kY
     have kn : Kept w3 VF [] := KK.out.trans kY (by intro x hx; simp at hx; exact .inr (by have := Hz8.out; omega))
     obtain ⟨R, N, L⟩ := off3 R N L Zz8 kY; obtain ⟨Rb, Nb, Lb⟩ := off3 Rb Nb Lb Zz8 kY
     have G7 := Lib.hid (kY.heap (by simp; exact HNE.out) G7.out)
     have G8 := g
     have KK := Lib.hid kn
     clear g kY kn
     refine hK.out _ _ KK.out (fun hHeld => ?_)
     clear hK KZ
     refine wpAnyH_done (by kernel_rfl) ?_ _
     clear hHeld
     go_wp2_with fail
     go_meet
     exact ⟨z7, z8, rfl, rfl, HNE, KK, ⟨k, tx, nx, id1, ops, evs, tn, tm, op, ta, nm, n, at1, ao, ao1, ae, ae1, ai, ai1, M, l, G7.out, R.out, L.out, HR.out, HE.out, HM.out⟩, ⟨kb, txb, nxb, id1b, opsb, evsb, tnb, tmb, opb, tab, nmb, nb, at1b, bo, bo1, be, be1, bi, bi1, Mb, lb, G8.out, Rb.out, Lb.out, HRb.out, HEb.out, HMb.out⟩⟩
   ·go_simp
    obtain ⟨z7, hz⟩ : ∃ z, z = V26.heap.size := ⟨_, rfl⟩
    obtain ⟨V32, hY⟩ : ∃ Y, Y = V26.alloc (.cells #[.int .u8 0, .int .i64 0, .int .i64 0, .int .i64 0, .slice none 0 0, .slice none 0 0, .int .i64 0, .int .i64 0, .slice none 0 0, .int .i64 0, .string ⟨#[]⟩, .int .i64 0, .int .i64 0] 35) := ⟨_, rfl⟩
    have kn : Kept V26 V32 [] := by rw [hY]; exact (Kept.refl V26 []).alloc _
    have b7 : V32.heap[z7]? = some (.cells #[.int .u8 0, .int .i64 0, .int .i64 0, .int .i64 0, .slice none 0 0, .slice none 0 0, .int .i64 0, .int .i64 0, .slice none 0 0, .int .i64 0, .string ⟨#[]⟩, .int .i64 0, .int .i64 0] 35 (0, 0)) := by rw [hY, hz]; exact heap_alloc_new V26 _
    rw [← hY, ← hz]
    have HNE : RowKit.Hid (z7 ≠ z8) := Lib.hid (by have := (Array.getElem?_eq_some_iff.1 Zz8.out).1; omega)
    have Hz7 : RowKit.Hid (w3.heap.size ≤ z7) := Lib.hid (by have := KK.out.size; omega)
    have Zz8 := Lib.hid (kn.heap (by simp) Zz8.out)
    have KK : RowKit.Hid (Kept w3 V32 []) := Lib.hid (KK.out.trans kn (by simp))
    have Zz7 := Lib.hid b7
    clear hY hz kn b7
    refine hK.out _ _ KK.out (fun hHeld => ?_)
    clear hK KZ
    refine wpAnyH_ready (rs := [1]) (by kernel_rfl) (by simp) ?_
    refine (AllReadyH.cons (o := _) rfl (fun KZ hK => ?_) AllReadyH.nil)
    go_simp
    go_at_call 11
    refine (HOF.out _ (K3.out.trans KK.out (by simp))).mono ?_
    rintro ex V33 ⟨k, tx, nx, id1, ops, evs, tn, tm, op, ta, nm, n, at1, ao, ao1, ae, ae1, ai, ai1, M, l, rfl, rdn, lwn, hrn, _, hEn, hMn, kn⟩
    have Zz8 := Lib.hid (kn.heap (by simp) Zz8.out)
    have Zz7 := Lib.hid (kn.heap (by simp) Zz7.out)
    have KK : RowKit.Hid (Kept w3 V33 []) := Lib.hid (KK.out.trans kn (by simp))
    have R := Lib.hid rdn; have L := Lib.hid lwn; have N := Lib.hid hMn.2; have HR := Lib.hid hrn; have HE := Lib.hid hEn; have HM := Lib.hid hMn.1
    clear rdn lwn hrn hEn hMn kn
    go_wp2_with fail
    refine hK.out _ _ KK.out (fun hHeld => ?_)
    clear hK KZ
    refine wpAnyH_ready (rs := [3]) (by kernel_rfl) (by simp) ?_
    refine (AllReadyH.cons (o := _) rfl (fun KZ hK => ?_) AllReadyH.nil)
    go_simp
    go_at_call 11
    refine (HOFb.out _ (K3.out.trans KK.out (by simp))).mono ?_
    rintro ex V34 ⟨kb, txb, nxb, id1b, opsb, evsb, tnb, tmb, opb, tab, nmb, nb, at1b, bo, bo1, be, be1, bi, bi1, Mb, lb, rfl, rdn, lwn, hrn, _, hEn, hMn, kn⟩
    have Zz8 := Lib.hid (kn.heap (by simp) Zz8.out)
    have Zz7 := Lib.hid (kn.heap (by simp) Zz7.out)
    have R := Lib.hid (R.out.keep kn)
    have L := Lib.hid (LowN.keep L.out kn.size)
    have N := Lib.hid (NoEs.keep N.out kn)
    have KK : RowKit.Hid (Kept w3 V34 []) := Lib.hid (KK.out.trans kn (by simp))
    have Rb := Lib.hid rdn; have Lb := Lib.hid lwn; have Nb := Lib.hid hMn.2; have HRb := Lib.hid hrn; have HEb := Lib.hid hEn; have HMb := Lib.hid hMn.1
    clear rdn lwn hrn hEn hMn kn
    go_wp2_with fail
    refine hK.out _ _ KK.out (fun hHeld => ?_)
    clear hK KZ
    refine wr1 6 rfl (fun KZ hK => ?_)
    refine step_row rfl 35 (.tmp 7) (.tmp 24) rfl z7 _ rfl rfl 35 _ Zz7.out (show (Try.prog.info? 35).map (·.size) = some 13 by kernel_rfl) rfl (one13 _ _ _ _ _ _ _ _ _ _ _ _ _ _ _ _ _ _ _) ?_
    intro VE g kY
    have kn : Kept w3 VE [] := KK.out.trans kY (by intro x hx; simp at hx; exact .inr (by have := Hz7.out; omega))
    obtain ⟨R, N, L⟩ := off3 R N L Zz7 kY; obtain ⟨Rb, Nb, Lb⟩ := off3 Rb Nb Lb Zz7 kY
    have Zz8 := Lib.hid (kY.heap (by simp; exact fun h => HNE.out h.symm) Zz8.out)
    have G7 := g
    have KK := Lib.hid kn
    clear g kY kn
    refine hK.out _ _ KK.out (fun hHeld => ?_)
    clear hK KZ
    refine wr1 7 rfl (fun KZ hK => ?_)
    refine step_row rfl 35 (.tmp 8) (.tmp 26) rfl z8 _ rfl rfl 35 _ Zz8.out (show (Try.prog.info? 35).map (·.size) = some 13 by kernel_rfl) rfl (one13 _ _ _ _ _ _ _ _ _ _ _ _ _ _ _ _ _ _ _) ?_
    intro VF g kY
    have kn : Kept w3 VF [] := KK.out.trans kY (by intro x hx; simp at hx; exact .inr (by have := Hz8.out; omega))
    obtain ⟨R, N, L⟩ := off3 R N L Zz8 kY; obtain ⟨Rb, Nb, Lb⟩ := off3 Rb Nb Lb Zz8 kY
    have G7 := Lib.hid (kY.heap (by simp; exact HNE.out) G7.out)
    have G8 := g
    have KK := Lib.hid kn
    clear g kY kn
    refine hK.out _ _ KK.out (fun hHeld => ?_)
    clear hK KZ
    refine wpAnyH_done (by kernel_rfl) ?_ _
    clear hHeld
    go_wp2_with fail
    go_meet
    exact ⟨z7, z8, rfl, rfl, HNE, KK, ⟨k, tx, nx, id1, ops, evs, tn, tm, op, ta, nm, n, at1, ao, ao1, ae, ae1, ai, ai1, M, l, G7.out, R.out, L.out, HR.out, HE.out, HM.out⟩, ⟨kb, txb, nxb, id1b, opsb, evsb, tnb, tmb, opb, tab, nmb, nb, at1b, bo, bo1, be, be1, bi, bi1, Mb, lb, G8.out, Rb.out, Lb.out, HRb.out, HEb.out, HMb.out⟩⟩
 case rest =>
  obtain ⟨z7, z8, rfl, rfl, hne, K34, x7, x8⟩ := hcut
  obtain ⟨w4, hw4⟩ : ∃ w4, w4 = wc := ⟨_, rfl⟩
  subst hw4
  obtain ⟨k, tx, nx, id1, ops, evs, tn, tm, op, ta, nm, n, at1, ao, ao1, ae, ae1, ai, ai1, M, l, b7, r7, l7, hr7, e7, m7⟩ := x7
  obtain ⟨kb, txb, nxb, id1b, opsb, evsb, tnb, tmb, opb, tab, nmb, nb, at1b, bo, bo1, be, be1, bi, bi1, Mb, lb, b8, r8, l8, hr8, e8, m8⟩ := x8
  have K4 := Lib.hid (K3.out.trans K34.out (by simp)); have Q7 := Lib.hid b7; have Q8 := Lib.hid b8; have R7 := Lib.hid r7; have R8 := Lib.hid r8; have L7 := Lib.hid l7; have L8 := Lib.hid l8; have B4 := Lib.hid (K34.out.heap (by simp) B3.out)
  have HR7 := Lib.hid hr7; have HR8 := Lib.hid hr8; have E7 := Lib.hid e7; have M7 := Lib.hid m7
  clear b7 b8 r7 r8 l7 l8 hne hr7 hr8 e7 e8 m7 m8
  have pp := fun j => cell_of_row w4 W.heap.size j _ _ _ B4.out
  have p0 := pp 0
  have p1 := pp 1
  have p2 := pp 2
  have p3 := pp 3
  have p4 := pp 4
  have p5 := pp 5
  have p6 := pp 6
  have p7 := pp 7
  have p8 := pp 8
  have p9 := pp 9
  have p10 := pp 10
  simp only [List.getElem?_toArray, List.getElem?_cons_zero, List.getElem?_cons_succ] at p0 p1 p2 p3 p4 p5 p6 p7 p8 p9 p10
  clear pp
  go_wp2_with fail
  refine (HOF.out _ K4.out).mono ?_
  rintro e w5 ⟨k3, tx3, nx3, id13, ops3, evs3, tn3, tm3, op3, ta3, nm3, n3, at13, co, co1, ce, ce1, ci, ci1, M3, l3, rfl, rd5, lw5, hr5, _, hE5, hM5, k5⟩
  clear p0 p1 p2 p3 p4 p5 p6 p7 p8 p9 p10
  have hMM : M3 = M := by rw [hM5.1, M7.out]
  subst hMM
  have hal := raw_alike E7.out hE5
  dsimp only at hal
  rw [En.mk.injEq] at hal
  obtain ⟨rfl, rfl, rfl, rfl, rfl, rfl, rfl, rfl, _, rfl, rfl, rfl, rfl⟩ := hal
  have K5 := Lib.hid (K4.out.trans k5 (by simp)); have R5 := Lib.hid rd5; have L5 := Lib.hid lw5; have KQ5 := Lib.hid k5
  have hw := And.intro hr5.k (And.intro hr5.tx (And.intro hr5.n (And.intro hr5.tm (And.intro hr5.at' (And.intro hr5.nops (And.intro hr5.nevs hr5.nm))))))
  dsimp only at hw
  have HW := Lib.hid hw
  have HT := Lib.hid (turned_ops (rd := rd5) (hl := by omega) (hle := by omega))
  clear rd5 lw5 hr5 hE5 hM5 k5 hw
  go_wp2_with fail
  refine (HT.out).mono ?_
  rintro e w6 ⟨vo, ve, rfl, o6, p6, k6⟩
  obtain ⟨ho, ho1, rfl⟩ := o6.shape
  obtain ⟨he, he1, rfl⟩ := p6.shape
  obtain ⟨z9, hz⟩ : ∃ z, z = w6.heap.size := ⟨_, rfl⟩
  obtain ⟨w7, hY⟩ : ∃ Y, Y = w6.alloc (.cells #[.int .u8 k, .int .i64 tx, .int .i64 nx, .int .i64 id1, .slice ho ops.length ho1, .slice he evs.length he1, .int .i64 tn, .int .i64 tm, .slice ci op3.length ci1, .int .i64 ta, .string nm, .int .i64 n, .int .i64 at1] 41) := ⟨_, rfl⟩
  have k67 : Kept w6 w7 [] := by rw [hY]; exact (Kept.refl w6 []).alloc _
  have b9 : w7.heap[z9]? = some (.cells #[.int .u8 k, .int .i64 tx, .int .i64 nx, .int .i64 id1, .slice ho ops.length ho1, .slice he evs.length he1, .int .i64 tn, .int .i64 tm, .slice ci op3.length ci1, .int .i64 ta, .string nm, .int .i64 n, .int .i64 at1] 41 (0, 0)) := by rw [hY, hz]; exact heap_alloc_new w6 _
  have k57 := k6.trans k67 (by simp)
  have K57 := Lib.hid k57
  have K7 := Lib.hid (K5.out.trans k57 (by simp)); have B9 := Lib.hid b9; have O7 := Lib.hid (o6.keep k67); have P7 := Lib.hid (p6.keep k67)
  have hz5 : w5.heap.size ≤ z9 := by rw [hz]; exact k6.size
  have hzs : w7.heap.size = z9 + 1 := by rw [hY, hz]; simp
  have RZ := Lib.hid (fun V (hV : Kept w7 V [z9]) => (⟨(o6.keep k67).kept hV (fun b hb => by have := (o6.lt b hb).2; simp; omega), (p6.keep k67).kept hV (fun b hb => by have := (p6.lt b hb).2; simp; omega), (R5.out.ri.kept k57 (by simp)).kept hV (fun b hb => by have := L5.out.2.2 b hb; simp; omega)⟩ : OwnK encO V w5.heap.size 67 (.slice ho ops.length ho1) ops ∧ OwnK encP V w5.heap.size 71 (.slice he evs.length he1) evs ∧ RdI V (.slice ci op3.length ci1) op3))
  have HZ9 : RowKit.Hid (w5.heap.size ≤ z9 ∧ w7.heap.size = z9 + 1) := Lib.hid ⟨hz5, hzs⟩
  go_upto_region 5 with fail
  rw [← hY, ← hz]
  clear hY hz k6 k67 k57 b9 o6 p6 hz5 hzs
  obtain ⟨q8, hq8⟩ := Int.eq_ofNat_of_zero_le Bd.out.1
  subst hq8
  obtain ⟨m, hm⟩ : ∃ m, m = q8 % 8 := ⟨_, rfl⟩
  have hmt : (q8 : Int).tmod 8 = m := by rw [Int.tmod_eq_emod_of_nonneg (by omega)]; omega
  have hmt2 : (q8 : Int) % 8 = m := by omega
  have hm8 : m < 8 := by omega
  have hwr : IntKind.u8.wrap (m : Int) = (m : Int) := by simp [IntKind.wrap, IntKind.bits, IntKind.signed]; omega
  have HM8 := Lib.hid hm8
  clear hm hm8
  go_upto_block 0 with fail
  clear hmt hmt2 hwr
  go_cut [] (fun wx => ZCut w5 wx z9 (⟨k, tx, nx, id1, ops, evs, tn, tm, op, ta, nm, n, at1⟩ : En))
  case first =>
   have hmm := HM8.out
   have hm0 : m = 0 ∨ m = 1 ∨ m = 2 ∨ m = 3 ∨ m = 4 ∨ m = 5 ∨ m = 6 ∨ m = 7 := by omega
   clear hmm
   rcases hm0 with rfl | rfl | rfl | rfl | rfl | rfl | rfl | rfl
   ·have d := cell_of_row w7 z9 0 _ _ _ B9.out; have f := frozen_of_row w7 z9 0 _ _ B9.out
    simp only [List.getElem?_toArray, List.getElem?_cons_zero] at d
    have e1 : IntKind.u8.wrap (k + 1) = k + 1 := by have := HW.out.1; simp [IntKind.wrap, IntKind.bits, IntKind.signed]; omega
    go_wp2_with fail
    go_meet
    have kz : Kept w7 (w7.setCell ⟨z9, 0, none⟩ (.int .u8 (k + 1))) [z9] := ((Kept.refl w7 [z9]).setCell (.inl (by simp)) _)
    obtain ⟨ro, re, ri⟩ := RZ.out _ kz
    have k5x : Kept w5 (w7.setCell ⟨z9, 0, none⟩ (.int .u8 (k + 1))) [] := K57.out.setCell (.inr (by have := HZ9.out.1; simp; omega)) _
    refine ⟨(k + 1), tx, nx, id1, ops, evs, tn, tm, op3, ta, nm, n, at1, ho, ho1, he, he1, ci, ci1, ?_, ⟨ro.rd, re.rd, ri⟩, ?_, by have := HW.out.2.2.2.2.2.1; omega, by have := HW.out.2.2.2.2.2.2.1; omega, k5x⟩
    ·have := xqa B9.out 0 (.int .u8 (k + 1))
     simp only [List.setIfInBounds_toArray, List.set_cons_zero] at this
     exact this
    ·intro h
     rw [En.mk.injEq] at h
     have hh := h.1
     omega
   ·have d := cell_of_row w7 z9 1 _ _ _ B9.out; have f := frozen_of_row w7 z9 1 _ _ B9.out
    simp only [List.getElem?_toArray, List.getElem?_cons_zero, List.getElem?_cons_succ] at d
    go_wp2_with fail
    go_meet
    have kz : Kept w7 (w7.setCell ⟨z9, 1, none⟩ (.int .i64 (wrap64 (tx + 1)))) [z9] := ((Kept.refl w7 [z9]).setCell (.inl (by simp)) _)
    obtain ⟨ro, re, ri⟩ := RZ.out _ kz
    have k5x : Kept w5 (w7.setCell ⟨z9, 1, none⟩ (.int .i64 (wrap64 (tx + 1)))) [] := K57.out.setCell (.inr (by have := HZ9.out.1; simp; omega)) _
    refine ⟨k, (wrap64 (tx + 1)), nx, id1, ops, evs, tn, tm, op3, ta, nm, n, at1, ho, ho1, he, he1, ci, ci1, ?_, ⟨ro.rd, re.rd, ri⟩, ?_, by have := HW.out.2.2.2.2.2.1; omega, by have := HW.out.2.2.2.2.2.2.1; omega, k5x⟩
    ·have := xqa B9.out 1 (.int .i64 (wrap64 (tx + 1)))
     simp only [List.setIfInBounds_toArray, List.set_cons_zero, List.set_cons_succ] at this
     exact this
    ·intro h
     rw [En.mk.injEq] at h
     have hh := h.2.1
     unfold wrap64 at hh; have := HW.out.2.1.1; have := HW.out.2.1.2; omega
   ·have d := cell_of_row w7 z9 11 _ _ _ B9.out; have f := frozen_of_row w7 z9 11 _ _ B9.out
    simp only [List.getElem?_toArray, List.getElem?_cons_zero, List.getElem?_cons_succ] at d
    have e1 : wrap64 (n - 1) = n - 1 := by have := HW.out.2.2.1.1; have := HW.out.2.2.1.2; unfold wrap64; omega
    go_wp2_with fail
    go_meet
    have kz : Kept w7 (w7.setCell ⟨z9, 11, none⟩ (.int .i64 (n - 1))) [z9] := ((Kept.refl w7 [z9]).setCell (.inl (by simp)) _)
    obtain ⟨ro, re, ri⟩ := RZ.out _ kz
    have k5x : Kept w5 (w7.setCell ⟨z9, 11, none⟩ (.int .i64 (n - 1))) [] := K57.out.setCell (.inr (by have := HZ9.out.1; simp; omega)) _
    refine ⟨k, tx, nx, id1, ops, evs, tn, tm, op3, ta, nm, (n - 1), at1, ho, ho1, he, he1, ci, ci1, ?_, ⟨ro.rd, re.rd, ri⟩, ?_, by have := HW.out.2.2.2.2.2.1; omega, by have := HW.out.2.2.2.2.2.2.1; omega, k5x⟩
    ·have := xqa B9.out 11 (.int .i64 (n - 1))
     simp only [List.setIfInBounds_toArray, List.set_cons_zero, List.set_cons_succ] at this
     exact this
    ·intro h
     rw [En.mk.injEq] at h
     have hh := h.2.2.2.2.2.2.2.2.2.2.2.1
     omega
   ·have d := cell_of_row w7 z9 10 _ _ _ B9.out; have f := frozen_of_row w7 z9 10 _ _ B9.out
    simp only [List.getElem?_toArray, List.getElem?_cons_zero, List.getElem?_cons_succ] at d
    have e1 := HW.out.2.2.2.2.2.2.2
    go_wp2_with fail
    go_meet
    have kz : Kept w7 (w7.setCell ⟨z9, 10, none⟩ (.string (nm ++ ⟨#[120]⟩))) [z9] := ((Kept.refl w7 [z9]).setCell (.inl (by simp)) _)
    obtain ⟨ro, re, ri⟩ := RZ.out _ kz
    have k5x : Kept w5 (w7.setCell ⟨z9, 10, none⟩ (.string (nm ++ ⟨#[120]⟩))) [] := K57.out.setCell (.inr (by have := HZ9.out.1; simp; omega)) _
    refine ⟨k, tx, nx, id1, ops, evs, tn, tm, op3, ta, (nm ++ ⟨#[120]⟩), n, at1, ho, ho1, he, he1, ci, ci1, ?_, ⟨ro.rd, re.rd, ri⟩, ?_, by have := HW.out.2.2.2.2.2.1; omega, by have := HW.out.2.2.2.2.2.2.1; omega, k5x⟩
    ·have := xqa B9.out 10 (.string (nm ++ ⟨#[120]⟩))
     simp only [List.setIfInBounds_toArray, List.set_cons_zero, List.set_cons_succ] at this
     exact this
    ·intro h
     rw [En.mk.injEq] at h
     have hh := h.2.2.2.2.2.2.2.2.2.2.1
     have h2 := congrArg ByteArray.size hh; rw [ByteArray.size_append] at h2; have h3 : (⟨#[120]⟩ : ByteArray).size = 1 := rfl; omega
   ·obtain ⟨i0, hi0, hz0, hz1, hz2⟩ := info_parts Try.infoOx
    obtain ⟨j0, hj0, hy0, hy1, hy2⟩ := info_parts Try.infoPx
    have d := cell_of_row w7 z9 4 _ _ _ B9.out
    simp only [List.getElem?_toArray, List.getElem?_cons_zero, List.getElem?_cons_succ] at d
    have SRC := xqI (E := encO) (P := Try.prog) (t := 67) w7 (⟨0, false, 0, ⟨#[]⟩⟩ : Ox) (tx := 38) Try.underlying38
    simp only [encO, Ox.cs] at SRC
    have SRC := Lib.hid SRC
    have OO := Lib.hid (O7.out.keep ((Kept.refl w7 []).alloc (.cells #[.int .i64 0, .bool false, .int .i64 0, .string ⟨#[]⟩] 67)))
    have OT := Lib.hid (P7.out.keep ((Kept.refl w7 []).alloc (.cells #[.int .i64 0, .bool false, .int .i64 0, .string ⟨#[]⟩] 67)))
    have HS : RowKit.Hid (w5.heap.size ≤ (w7.alloc (.cells #[.int .i64 0, .bool false, .int .i64 0, .string ⟨#[]⟩] 67)).heap.size) := Lib.hid (by have := HZ9.out; simp; omega)
    have BA : RowKit.Hid ((w7.alloc (.cells #[.int .i64 0, .bool false, .int .i64 0, .string ⟨#[]⟩] 67)).heap[z9]? = some (.cells #[.int .u8 k, .int .i64 tx, .int .i64 nx, .int .i64 id1, .slice ho ops.length ho1, .slice he evs.length he1, .int .i64 tn, .int .i64 tm, .slice ci op3.length ci1, .int .i64 ta, .string nm, .int .i64 n, .int .i64 at1] 41 (0, 0))) := Lib.hid (((Kept.refl w7 []).alloc _).heap (by simp) B9.out)
    go_wp2_with (at_builtin; refine xqp _ rfl (.tmp 63) (.tmp 65) 38 38 rfl w5.heap.size 67 i0 _ 4 40 Try.underlying38 hi0 hz0 hz1 hz2 rfl (.slice ho ops.length ho1) ops.length (kcs encO ops) rfl OO.out (.slice (some ⟨w7.heap.size, 0, none⟩) 1 1) 1 _ rfl SRC.out (by have := HW.out.2.2.2.2.2.1; have := HW.out.2.2.2.2.2.2.1; unfold maxLen; omega) (by have := HW.out.2.2.2.2.2.1; have := HW.out.2.2.2.2.2.2.1; omega) HS.out ?nexta)
    case nexta =>
     intro v9 w9 hown _ hgrow _
     have o9 : OwnK encO w9 w5.heap.size 67 v9 (ops ++ [(⟨0, false, 0, ⟨#[]⟩⟩ : Ox)]) := by
      unfold OwnK
      rw [xqv, xqu, List.length_append]
      exact hown
     have kb : Kept w5 w9 [] := (K57.out.alloc _).grown hgrow (fun b hb => .inr (OO.out.lt b hb).1)
     have oth := OT.out.kept ((Kept.refl _ (Value.slice ho ops.length ho1).ownBlock.toList).grown hgrow (fun b hb => .inl (by simp [hb]))) (fun b hb hm => by
      have h1 := OT.out.tag hb; have h2 := OO.out.tag (g := b) (by simpa using hm)
      obtain ⟨c1, h1⟩ := h1; obtain ⟨c2, h2⟩ := h2
      rw [h1] at h2; simp at h2)
     have bx9 : w9.heap[z9]? = some (.cells #[.int .u8 k, .int .i64 tx, .int .i64 nx, .int .i64 id1, .slice ho ops.length ho1, .slice he evs.length he1, .int .i64 tn, .int .i64 tm, .slice ci op3.length ci1, .int .i64 ta, .string nm, .int .i64 n, .int .i64 at1] 41 (0, 0)) := by
      have h1 := BA.out
      rw [hgrow.block _ (Array.getElem?_eq_some_iff.1 h1).1 (fun hm => by have := OO.out.tag (g := z9) hm.symm; obtain ⟨c2, h2⟩ := this; rw [h1] at h2; simp at h2)]
      exact h1
     have d9 := cell_of_row w9 z9 4 _ _ _ bx9; have f9 := frozen_of_row w9 z9 4 _ _ bx9
     simp at d9
     obtain ⟨u9, c9, e9⟩ := o9.shape
     obtain ⟨n9, hn9⟩ : ∃ n9, n9 = (ops ++ [(⟨0, false, 0, ⟨#[]⟩⟩ : Ox)]).length := ⟨_, rfl⟩
     rw [← hn9] at e9
     subst e9
     have HO9 := Lib.hid o9; have HT9 := Lib.hid oth; have HB9 := Lib.hid bx9; have HKB := Lib.hid kb; have HN9 := Lib.hid hn9
     clear hown hgrow o9 oth bx9 kb hn9
     go_wp2_with fail
     go_meet
     have ks : Kept w9 (w9.setCell ⟨z9, 4, none⟩ (.slice u9 n9 c9)) [z9] := (Kept.refl w9 _).setCell (.inl (by simp)) _
     have nb : ∀ b, (Value.slice u9 n9 c9).ownBlock = some b → b ∉ [z9] := fun b hb => by
      obtain ⟨c, hc⟩ := HO9.out.tag hb
      simp only [List.mem_singleton]
      rintro rfl
      rw [HB9.out] at hc
      simp at hc
     have nt : ∀ b, (Value.slice he evs.length he1).ownBlock = some b → b ∉ [z9] := fun b hb => by
      obtain ⟨c, hc⟩ := HT9.out.tag hb
      simp only [List.mem_singleton]
      rintro rfl
      rw [HB9.out] at hc
      simp at hc
     have k5x : Kept w5 (w9.setCell ⟨z9, 4, none⟩ (.slice u9 n9 c9)) [] := HKB.out.setCell (.inr (by have := HZ9.out.1; simp; omega)) _
     refine ⟨k, tx, nx, id1, (ops ++ [(⟨0, false, 0, ⟨#[]⟩⟩ : Ox)]), evs, tn, tm, op3, ta, nm, n, at1, u9, c9, he, he1, ci, ci1, ?_, ⟨by rw [← HN9.out]; exact (HO9.out.kept ks nb).rd, (HT9.out.kept ks nt).rd, R5.out.ri.kept k5x (by simp)⟩, ?_, by rw [List.length_append]; have := HW.out.2.2.2.2.2.1; simp; omega, by have := HW.out.2.2.2.2.2.2.1; omega, k5x⟩
     ·rw [← HN9.out]
      have := xqa HB9.out 4 (.slice u9 n9 c9)
      simp only [List.setIfInBounds_toArray, List.set_cons_zero, List.set_cons_succ] at this
      exact this
     ·intro h
      rw [En.mk.injEq] at h
      have hh := congrArg List.length h.2.2.2.2.1
      rw [List.length_append] at hh
      simp at hh
   ·obtain ⟨i0, hi0, hz0, hz1, hz2⟩ := info_parts Try.infoOx
    obtain ⟨j0, hj0, hy0, hy1, hy2⟩ := info_parts Try.infoPx
    have d := cell_of_row w7 z9 5 _ _ _ B9.out
    simp only [List.getElem?_toArray, List.getElem?_cons_zero, List.getElem?_cons_succ] at d
    have SRC := xqI (E := encP) (P := Try.prog) (t := 71) w7 (⟨0, ⟨0, 0, ⟨#[]⟩, 0, 0, 0, 0, ⟨#[]⟩⟩⟩ : Px) (tx := 39) Try.underlying39
    simp only [encP, Px.cs] at SRC
    have SRC := Lib.hid SRC
    have OO := Lib.hid (P7.out.keep ((Kept.refl w7 []).alloc (.cells #[.int .i64 0, .int .i64 0, .int .i64 0, .string ⟨#[]⟩, .int .i64 0, .int .i64 0, .int .u8 0, .int .i64 0, .string ⟨#[]⟩] 71)))
    have OT := Lib.hid (O7.out.keep ((Kept.refl w7 []).alloc (.cells #[.int .i64 0, .int .i64 0, .int .i64 0, .string ⟨#[]⟩, .int .i64 0, .int .i64 0, .int .u8 0, .int .i64 0, .string ⟨#[]⟩] 71)))
    have HS : RowKit.Hid (w5.heap.size ≤ (w7.alloc (.cells #[.int .i64 0, .int .i64 0, .int .i64 0, .string ⟨#[]⟩, .int .i64 0, .int .i64 0, .int .u8 0, .int .i64 0, .string ⟨#[]⟩] 71)).heap.size) := Lib.hid (by have := HZ9.out; simp; omega)
    have BA : RowKit.Hid ((w7.alloc (.cells #[.int .i64 0, .int .i64 0, .int .i64 0, .string ⟨#[]⟩, .int .i64 0, .int .i64 0, .int .u8 0, .int .i64 0, .string ⟨#[]⟩] 71)).heap[z9]? = some (.cells #[.int .u8 k, .int .i64 tx, .int .i64 nx, .int .i64 id1, .slice ho ops.length ho1, .slice he evs.length he1, .int .i64 tn, .int .i64 tm, .slice ci op3.length ci1, .int .i64 ta, .string nm, .int .i64 n, .int .i64 at1] 41 (0, 0))) := Lib.hid (((Kept.refl w7 []).alloc _).heap (by simp) B9.out)
    go_wp2_with (at_builtin; refine xqp _ rfl (.tmp 71) (.tmp 73) 39 39 rfl w5.heap.size 71 j0 _ 9 88 Try.underlying39 hj0 hy0 hy1 hy2 rfl (.slice he evs.length he1) evs.length (kcs encP evs) rfl OO.out (.slice (some ⟨w7.heap.size, 0, none⟩) 1 1) 1 _ rfl SRC.out (by have := HW.out.2.2.2.2.2.1; have := HW.out.2.2.2.2.2.2.1; unfold maxLen; omega) (by have := HW.out.2.2.2.2.2.1; have := HW.out.2.2.2.2.2.2.1; omega) HS.out ?nexta)
    case nexta =>
     intro v9 w9 hown _ hgrow _
     have o9 : OwnK encP w9 w5.heap.size 71 v9 (evs ++ [(⟨0, ⟨0, 0, ⟨#[]⟩, 0, 0, 0, 0, ⟨#[]⟩⟩⟩ : Px)]) := by
      unfold OwnK
      rw [xqv, xqu, List.length_append]
      exact hown
     have kb : Kept w5 w9 [] := (K57.out.alloc _).grown hgrow (fun b hb => .inr (OO.out.lt b hb).1)
     have oth := OT.out.kept ((Kept.refl _ (Value.slice he evs.length he1).ownBlock.toList).grown hgrow (fun b hb => .inl (by simp [hb]))) (fun b hb hm => by
      have h1 := OT.out.tag hb; have h2 := OO.out.tag (g := b) (by simpa using hm)
      obtain ⟨c1, h1⟩ := h1; obtain ⟨c2, h2⟩ := h2
      rw [h1] at h2; simp at h2)
     have bx9 : w9.heap[z9]? = some (.cells #[.int .u8 k, .int .i64 tx, .int .i64 nx, .int .i64 id1, .slice ho ops.length ho1, .slice he evs.length he1, .int .i64 tn, .int .i64 tm, .slice ci op3.length ci1, .int .i64 ta, .string nm, .int .i64 n, .int .i64 at1] 41 (0, 0)) := by
      have h1 := BA.out
      rw [hgrow.block _ (Array.getElem?_eq_some_iff.1 h1).1 (fun hm => by have := OO.out.tag (g := z9) hm.symm; obtain ⟨c2, h2⟩ := this; rw [h1] at h2; simp at h2)]
      exact h1
     have d9 := cell_of_row w9 z9 5 _ _ _ bx9; have f9 := frozen_of_row w9 z9 5 _ _ bx9
     simp at d9
     obtain ⟨u9, c9, e9⟩ := o9.shape
     obtain ⟨n9, hn9⟩ : ∃ n9, n9 = (evs ++ [(⟨0, ⟨0, 0, ⟨#[]⟩, 0, 0, 0, 0, ⟨#[]⟩⟩⟩ : Px)]).length := ⟨_, rfl⟩
     rw [← hn9] at e9
     subst e9
     have HO9 := Lib.hid o9; have HT9 := Lib.hid oth; have HB9 := Lib.hid bx9; have HKB := Lib.hid kb; have HN9 := Lib.hid hn9
     clear hown hgrow o9 oth bx9 kb hn9
     go_wp2_with fail
     go_meet
     have ks : Kept w9 (w9.setCell ⟨z9, 5, none⟩ (.slice u9 n9 c9)) [z9] := (Kept.refl w9 _).setCell (.inl (by simp)) _
     have nb : ∀ b, (Value.slice u9 n9 c9).ownBlock = some b → b ∉ [z9] := fun b hb => by
      obtain ⟨c, hc⟩ := HO9.out.tag hb
      simp only [List.mem_singleton]
      rintro rfl
      rw [HB9.out] at hc
      simp at hc
     have nt : ∀ b, (Value.slice ho ops.length ho1).ownBlock = some b → b ∉ [z9] := fun b hb => by
      obtain ⟨c, hc⟩ := HT9.out.tag hb
      simp only [List.mem_singleton]
      rintro rfl
      rw [HB9.out] at hc
      simp at hc
     have k5x : Kept w5 (w9.setCell ⟨z9, 5, none⟩ (.slice u9 n9 c9)) [] := HKB.out.setCell (.inr (by have := HZ9.out.1; simp; omega)) _
     refine ⟨k, tx, nx, id1, ops, (evs ++ [(⟨0, ⟨0, 0, ⟨#[]⟩, 0, 0, 0, 0, ⟨#[]⟩⟩⟩ : Px)]), tn, tm, op3, ta, nm, n, at1, ho, ho1, u9, c9, ci, ci1, ?_, ⟨(HT9.out.kept ks nt).rd, by rw [← HN9.out]; exact (HO9.out.kept ks nb).rd, R5.out.ri.kept k5x (by simp)⟩, ?_, by have := HW.out.2.2.2.2.2.1; omega, by rw [List.length_append]; have := HW.out.2.2.2.2.2.2.1; simp; omega, k5x⟩
     ·rw [← HN9.out]
      have := xqa HB9.out 5 (.slice u9 n9 c9)
      simp only [List.setIfInBounds_toArray, List.set_cons_zero, List.set_cons_succ] at this
      exact this
     ·intro h
      rw [En.mk.injEq] at h
      have hh := congrArg List.length h.2.2.2.2.2.1
      rw [List.length_append] at hh
      simp at hh
   ·have d := cell_of_row w7 z9 7 _ _ _ B9.out; have f := frozen_of_row w7 z9 7 _ _ B9.out
    simp only [List.getElem?_toArray, List.getElem?_cons_zero, List.getElem?_cons_succ] at d
    go_wp2_with fail
    go_meet
    have kz : Kept w7 (w7.setCell ⟨z9, 7, none⟩ (.int .i64 (wrap64 (tm + 1)))) [z9] := ((Kept.refl w7 [z9]).setCell (.inl (by simp)) _)
    obtain ⟨ro, re, ri⟩ := RZ.out _ kz
    have k5x : Kept w5 (w7.setCell ⟨z9, 7, none⟩ (.int .i64 (wrap64 (tm + 1)))) [] := K57.out.setCell (.inr (by have := HZ9.out.1; simp; omega)) _
    refine ⟨k, tx, nx, id1, ops, evs, tn, (wrap64 (tm + 1)), op3, ta, nm, n, at1, ho, ho1, he, he1, ci, ci1, ?_, ⟨ro.rd, re.rd, ri⟩, ?_, by have := HW.out.2.2.2.2.2.1; omega, by have := HW.out.2.2.2.2.2.2.1; omega, k5x⟩
    ·have := xqa B9.out 7 (.int .i64 (wrap64 (tm + 1)))
     simp only [List.setIfInBounds_toArray, List.set_cons_zero, List.set_cons_succ] at this
     exact this
    ·intro h
     rw [En.mk.injEq] at h
     have hh := h.2.2.2.2.2.2.2.1
     unfold wrap64 at hh; have := HW.out.2.2.2.1.1; have := HW.out.2.2.2.1.2; omega
   ·have d := cell_of_row w7 z9 12 _ _ _ B9.out; have f := frozen_of_row w7 z9 12 _ _ B9.out
    simp only [List.getElem?_toArray, List.getElem?_cons_zero, List.getElem?_cons_succ] at d
    go_wp2_with fail
    go_meet
    have kz : Kept w7 (w7.setCell ⟨z9, 12, none⟩ (.int .i64 (wrap64 (at1 + 1)))) [z9] := ((Kept.refl w7 [z9]).setCell (.inl (by simp)) _)
    obtain ⟨ro, re, ri⟩ := RZ.out _ kz
    have k5x : Kept w5 (w7.setCell ⟨z9, 12, none⟩ (.int .i64 (wrap64 (at1 + 1)))) [] := K57.out.setCell (.inr (by have := HZ9.out.1; simp; omega)) _
    refine ⟨k, tx, nx, id1, ops, evs, tn, tm, op3, ta, nm, n, (wrap64 (at1 + 1)), ho, ho1, he, he1, ci, ci1, ?_, ⟨ro.rd, re.rd, ri⟩, ?_, by have := HW.out.2.2.2.2.2.1; omega, by have := HW.out.2.2.2.2.2.2.1; omega, k5x⟩
    ·have := xqa B9.out 12 (.int .i64 (wrap64 (at1 + 1)))
     simp only [List.setIfInBounds_toArray, List.set_cons_zero, List.set_cons_succ] at this
     exact this
    ·intro h
     rw [En.mk.injEq] at h
     have hh := h.2.2.2.2.2.2.2.2.2.2.2.2
     unfold wrap64 at hh; have := HW.out.2.2.2.2.1; omega
  case rest =>
   obtain ⟨zk, ztx, znx, zid1, zops, zevs, ztn, ztm, zop, zta, znm, zn, zat1, zo, zo1, ze, ze1, zi, zi1, gz, rz, nez, nzo, nze, k8⟩ := hcut
   obtain ⟨w8, hw8⟩ : ∃ w8, w8 = wc := ⟨_, rfl⟩
   subst hw8
   have K8 := Lib.hid (K5.out.trans k8 (by simp)); have k48 := KQ5.out.trans k8 (by simp)
   have BX1 := Lib.hid (k48.heap (by simp) Q7.out); have BX2 := Lib.hid (k48.heap (by simp) Q8.out); have BZ := Lib.hid gz
   have RX1 := Lib.hid (fun V (hV : Kept w8 V []) => (R7.out.keep k48).keep hV); have RX2 := Lib.hid (fun V (hV : Kept w8 V []) => (R8.out.keep k48).keep hV); have RXZ := Lib.hid (fun V (hV : Kept w8 V []) => rz.keep hV)
   have LX1 := Lib.hid (fun V (hV : Kept w8 V []) => fun b hb => Nat.lt_of_lt_of_le (L7.out.2.2 b hb) (Nat.le_trans k48.size hV.size)); have LX2 := Lib.hid (fun V (hV : Kept w8 V []) => fun b hb => Nat.lt_of_lt_of_le (L8.out.2.2 b hb) (Nat.le_trans k48.size hV.size))
   have h1 := HR7.out.nops; have h2 := HR7.out.nevs; have h3 := HR8.out.nops; have h4 := HR8.out.nevs
   dsimp only at h1 h2 h3 h4
   obtain ⟨B, hB⟩ : ∃ B : Bool, (B = true ↔ (⟨k, tx, nx, id1, ops, evs, tn, tm, op, ta, nm, n, at1⟩ : En) = (⟨kb, txb, nxb, id1b, opsb, evsb, tnb, tmb, opb, tab, nmb, nb, at1b⟩ : En)) := by
    by_cases h : (⟨k, tx, nx, id1, ops, evs, tn, tm, op, ta, nm, n, at1⟩ : En) = (⟨kb, txb, nxb, id1b, opsb, evsb, tnb, tmb, opb, tab, nmb, nb, at1b⟩ : En)
    ·exact ⟨true, ⟨fun _ => h, fun _ => rfl⟩⟩
    ·exact ⟨false, ⟨fun h2 => (by cases h2), fun h2 => absurd h2 h⟩⟩
   have HT1 := Lib.hid (fun V (yo : Option Addr) (yo1 : Nat) (ye : Option Addr) (ye1 : Nat) (yi : Option Addr) (yi1 : Nat) (r : RdN V (⟨k, tx, nx, id1, ops, evs, tn, tm, op, ta, nm, n, at1⟩ : En) (.slice yo ops.length yo1) (.slice ye evs.length ye1) (.slice yi op.length yi1)) (fi : ∀ b, (Value.slice yi op.length yi1).ownBlock = some b → b < V.heap.size) => tu_any k tx nx id1 ops evs tn tm op ta nm n at1 yo yo1 ye ye1 yi yi1 V r fi (by omega) (by omega))
   have HT2 := Lib.hid (fun V (yo : Option Addr) (yo1 : Nat) (ye : Option Addr) (ye1 : Nat) (yi : Option Addr) (yi1 : Nat) (r : RdN V (⟨kb, txb, nxb, id1b, opsb, evsb, tnb, tmb, opb, tab, nmb, nb, at1b⟩ : En) (.slice yo opsb.length yo1) (.slice ye evsb.length ye1) (.slice yi opb.length yi1)) (fi : ∀ b, (Value.slice yi opb.length yi1).ownBlock = some b → b < V.heap.size) => tu_any kb txb nxb id1b opsb evsb tnb tmb opb tab nmb nb at1b yo yo1 ye ye1 yi yi1 V r fi (by omega) (by omega))
   have HSB : RowKit.Hid (∀ V (xo : Option Addr) (xo1 : Nat) (xe : Option Addr) (xe1 : Nat) (xi : Option Addr) (xi1 : Nat) (yo : Option Addr) (yo1 : Nat) (ye : Option Addr) (ye1 : Nat) (yi : Option Addr) (yi1 : Nat), RdN V (⟨k, tx, nx, id1, ops, evs, tn, tm, op, ta, nm, n, at1⟩ : En) (.slice xo ops.length xo1) (.slice xe evs.length xe1) (.slice xi op.length xi1) → RdN V (⟨kb, txb, nxb, id1b, opsb, evsb, tnb, tmb, opb, tab, nmb, nb, at1b⟩ : En) (.slice yo opsb.length yo1) (.slice ye evsb.length ye1) (.slice yi opb.length yi1) → Calls Try.prog 18 #[.agg #[.int .u8 k, .int .i64 tx, .int .i64 nx, .int .i64 id1, .slice xo ops.length xo1, .slice xe evs.length xe1, .int .i64 tn, .int .i64 tm, .slice xi op.length xi1, .int .i64 ta, .string nm, .int .i64 n, .int .i64 at1], .agg #[.int .u8 kb, .int .i64 txb, .int .i64 nxb, .int .i64 id1b, .slice yo opsb.length yo1, .slice ye evsb.length ye1, .int .i64 tnb, .int .i64 tmb, .slice yi opb.length yi1, .int .i64 tab, .string nmb, .int .i64 nb, .int .i64 at1b]] V fun e w' => e = .returned (.bool B) ∧ Kept V w' []) := Lib.hid (fun V xo xo1 xe xe1 xi xi1 yo yo1 ye ye1 yi yi1 r1 r2 => EqP.bl (esame_any (⟨k, tx, nx, id1, ops, evs, tn, tm, op, ta, nm, n, at1⟩ : En) (⟨kb, txb, nxb, id1b, opsb, evsb, tnb, tmb, opb, tab, nmb, nb, at1b⟩ : En) (.slice xo ops.length xo1) (.slice xe evs.length xe1) (.slice xi op.length xi1) (.slice yo opsb.length yo1) (.slice ye evsb.length ye1) (.slice yi opb.length yi1) V r1 r2 ⟨by dsimp only; omega, by dsimp only; omega⟩ ⟨by dsimp only; omega, by dsimp only; omega⟩) hB)
   have HRB : RowKit.Hid (∀ V (xo : Option Addr) (xo1 : Nat) (xe : Option Addr) (xe1 : Nat) (xi : Option Addr) (xi1 : Nat) (yo : Option Addr) (yo1 : Nat) (ye : Option Addr) (ye1 : Nat) (yi : Option Addr) (yi1 : Nat), RdN V (⟨k, tx, nx, id1, ops, evs, tn, tm, op, ta, nm, n, at1⟩ : En) (.slice xo ops.length xo1) (.slice xe evs.length xe1) (.slice xi op.length xi1) → RdN V (⟨kb, txb, nxb, id1b, opsb, evsb, tnb, tmb, opb, tab, nmb, nb, at1b⟩ : En) (.slice yo opsb.length yo1) (.slice ye evsb.length ye1) (.slice yi opb.length yi1) → Calls Try.prog 19 #[.agg #[.int .u8 k, .int .i64 tx, .int .i64 nx, .int .i64 id1, .slice xo ops.length xo1, .slice xe evs.length xe1, .int .i64 tn, .int .i64 tm, .slice xi op.length xi1, .int .i64 ta, .string nm, .int .i64 n, .int .i64 at1], .agg #[.int .u8 kb, .int .i64 txb, .int .i64 nxb, .int .i64 id1b, .slice yo opsb.length yo1, .slice ye evsb.length ye1, .int .i64 tnb, .int .i64 tmb, .slice yi opb.length yi1, .int .i64 tab, .string nmb, .int .i64 nb, .int .i64 at1b]] V fun e w' => e = .returned (.bool B) ∧ Kept V w' []) := Lib.hid (fun V xo xo1 xe xe1 xi xi1 yo yo1 ye ye1 yi yi1 r1 r2 => EqP.bl (rsame_any (⟨k, tx, nx, id1, ops, evs, tn, tm, op, ta, nm, n, at1⟩ : En) (⟨kb, txb, nxb, id1b, opsb, evsb, tnb, tmb, opb, tab, nmb, nb, at1b⟩ : En) (.slice xo ops.length xo1) (.slice xe evs.length xe1) (.slice xi op.length xi1) (.slice yo opsb.length yo1) (.slice ye evsb.length ye1) (.slice yi opb.length yi1) V r1 r2 ⟨by dsimp only; omega, by dsimp only; omega⟩) hB)
   have HZZ : RowKit.Hid (∀ V, RdN V (⟨zk, ztx, znx, zid1, zops, zevs, ztn, ztm, zop, zta, znm, zn, zat1⟩ : En) (.slice zo zops.length zo1) (.slice ze zevs.length ze1) (.slice zi zop.length zi1) → Calls Try.prog 18 #[.agg #[.int .u8 zk, .int .i64 ztx, .int .i64 znx, .int .i64 zid1, .slice zo zops.length zo1, .slice ze zevs.length ze1, .int .i64 ztn, .int .i64 ztm, .slice zi zop.length zi1, .int .i64 zta, .string znm, .int .i64 zn, .int .i64 zat1], .agg #[.int .u8 zk, .int .i64 ztx, .int .i64 znx, .int .i64 zid1, .slice zo zops.length zo1, .slice ze zevs.length ze1, .int .i64 ztn, .int .i64 ztm, .slice zi zop.length zi1, .int .i64 zta, .string znm, .int .i64 zn, .int .i64 zat1]] V fun e w' => e = .returned (.bool true) ∧ Kept V w' []) := Lib.hid (fun V r1 => EqP.ye (w := V) (esame_any (⟨zk, ztx, znx, zid1, zops, zevs, ztn, ztm, zop, zta, znm, zn, zat1⟩ : En) (⟨zk, ztx, znx, zid1, zops, zevs, ztn, ztm, zop, zta, znm, zn, zat1⟩ : En) (.slice zo zops.length zo1) (.slice ze zevs.length ze1) (.slice zi zop.length zi1) (.slice zo zops.length zo1) (.slice ze zevs.length ze1) (.slice zi zop.length zi1) V r1 r1 ⟨by dsimp only; omega, by dsimp only; omega⟩ ⟨by dsimp only; omega, by dsimp only; omega⟩) rfl)
   have HZ1 : RowKit.Hid (∀ V (yo : Option Addr) (yo1 : Nat) (ye : Option Addr) (ye1 : Nat) (yi : Option Addr) (yi1 : Nat), RdN V (⟨zk, ztx, znx, zid1, zops, zevs, ztn, ztm, zop, zta, znm, zn, zat1⟩ : En) (.slice zo zops.length zo1) (.slice ze zevs.length ze1) (.slice zi zop.length zi1) → RdN V (⟨k, tx, nx, id1, ops, evs, tn, tm, op, ta, nm, n, at1⟩ : En) (.slice yo ops.length yo1) (.slice ye evs.length ye1) (.slice yi op.length yi1) → Calls Try.prog 18 #[.agg #[.int .u8 zk, .int .i64 ztx, .int .i64 znx, .int .i64 zid1, .slice zo zops.length zo1, .slice ze zevs.length ze1, .int .i64 ztn, .int .i64 ztm, .slice zi zop.length zi1, .int .i64 zta, .string znm, .int .i64 zn, .int .i64 zat1], .agg #[.int .u8 k, .int .i64 tx, .int .i64 nx, .int .i64 id1, .slice yo ops.length yo1, .slice ye evs.length ye1, .int .i64 tn, .int .i64 tm, .slice yi op.length yi1, .int .i64 ta, .string nm, .int .i64 n, .int .i64 at1]] V fun e w' => e = .returned (.bool false) ∧ Kept V w' []) := Lib.hid (fun V yo yo1 ye ye1 yi yi1 r1 r2 => EqP.na (w := V) (esame_any (⟨zk, ztx, znx, zid1, zops, zevs, ztn, ztm, zop, zta, znm, zn, zat1⟩ : En) (⟨k, tx, nx, id1, ops, evs, tn, tm, op, ta, nm, n, at1⟩ : En) (.slice zo zops.length zo1) (.slice ze zevs.length ze1) (.slice zi zop.length zi1) (.slice yo ops.length yo1) (.slice ye evs.length ye1) (.slice yi op.length yi1) V r1 r2 ⟨by dsimp only; omega, by dsimp only; omega⟩ ⟨by dsimp only; omega, by dsimp only; omega⟩) nez)
   have hBB : (B == B) = true := by simp
   clear hB gz rz nez nzo nze k8 k48 h1 h2 h3 h4
   go_upto_region 21 with fail
   refine wp_region_held_drew (S := fun Z => Kept w8 Z []) (by kernel_rfl) (Kept.refl w8 []).drew (fun hHeld => ?_)
   refine wx 0 86 (.agg #[.int .u8 k, .int .i64 tx, .int .i64 nx, .int .i64 id1, .slice ao ops.length ao1, .slice ae evs.length ae1, .int .i64 tn, .int .i64 tm, .slice ai op.length ai1, .int .i64 ta, .string nm, .int .i64 n, .int .i64 at1]) rfl hHeld ?_ (hy := fun V hV => by (have hh := hV.heap (by simp) BX1.out; have q0 := cell_of_row V _ 0 _ _ _ hh; have q1 := cell_of_row V _ 1 _ _ _ hh; have q2 := cell_of_row V _ 2 _ _ _ hh; have q3 := cell_of_row V _ 3 _ _ _ hh; have q4 := cell_of_row V _ 4 _ _ _ hh; have q5 := cell_of_row V _ 5 _ _ _ hh; have q6 := cell_of_row V _ 6 _ _ _ hh; have q7 := cell_of_row V _ 7 _ _ _ hh; have q8 := cell_of_row V _ 8 _ _ _ hh; have q9 := cell_of_row V _ 9 _ _ _ hh; have q10 := cell_of_row V _ 10 _ _ _ hh; have q11 := cell_of_row V _ 11 _ _ _ hh; have q12 := cell_of_row V _ 12 _ _ _ hh; clear hV hh; simp only [List.getElem?_toArray, List.getElem?_cons_zero, List.getElem?_cons_succ] at q0 q1 q2 q3 q4 q5 q6 q7 q8 q9 q10 q11 q12; go_simp))
   refine wx 2 88 (.agg #[.int .u8 kb, .int .i64 txb, .int .i64 nxb, .int .i64 id1b, .slice bo opsb.length bo1, .slice be evsb.length be1, .int .i64 tnb, .int .i64 tmb, .slice bi opb.length bi1, .int .i64 tab, .string nmb, .int .i64 nb, .int .i64 at1b]) rfl hHeld ?_ (hy := fun V hV => by (have hh := hV.heap (by simp) BX2.out; have q0 := cell_of_row V _ 0 _ _ _ hh; have q1 := cell_of_row V _ 1 _ _ _ hh; have q2 := cell_of_row V _ 2 _ _ _ hh; have q3 := cell_of_row V _ 3 _ _ _ hh; have q4 := cell_of_row V _ 4 _ _ _ hh; have q5 := cell_of_row V _ 5 _ _ _ hh; have q6 := cell_of_row V _ 6 _ _ _ hh; have q7 := cell_of_row V _ 7 _ _ _ hh; have q8 := cell_of_row V _ 8 _ _ _ hh; have q9 := cell_of_row V _ 9 _ _ _ hh; have q10 := cell_of_row V _ 10 _ _ _ hh; have q11 := cell_of_row V _ 11 _ _ _ hh; have q12 := cell_of_row V _ 12 _ _ _ hh; clear hV hh; simp only [List.getElem?_toArray, List.getElem?_cons_zero, List.getElem?_cons_succ] at q0 q1 q2 q3 q4 q5 q6 q7 q8 q9 q10 q11 q12; go_simp))
   refine wx 5 91 (.agg #[.int .u8 k, .int .i64 tx, .int .i64 nx, .int .i64 id1, .slice ao ops.length ao1, .slice ae evs.length ae1, .int .i64 tn, .int .i64 tm, .slice ai op.length ai1, .int .i64 ta, .string nm, .int .i64 n, .int .i64 at1]) rfl hHeld ?_ (hy := fun V hV => by (have hh := hV.heap (by simp) BX1.out; have q0 := cell_of_row V _ 0 _ _ _ hh; have q1 := cell_of_row V _ 1 _ _ _ hh; have q2 := cell_of_row V _ 2 _ _ _ hh; have q3 := cell_of_row V _ 3 _ _ _ hh; have q4 := cell_of_row V _ 4 _ _ _ hh; have q5 := cell_of_row V _ 5 _ _ _ hh; have q6 := cell_of_row V _ 6 _ _ _ hh; have q7 := cell_of_row V _ 7 _ _ _ hh; have q8 := cell_of_row V _ 8 _ _ _ hh; have q9 := cell_of_row V _ 9 _ _ _ hh; have q10 := cell_of_row V _ 10 _ _ _ hh; have q11 := cell_of_row V _ 11 _ _ _ hh; have q12 := cell_of_row V _ 12 _ _ _ hh; clear hV hh; simp only [List.getElem?_toArray, List.getElem?_cons_zero, List.getElem?_cons_succ] at q0 q1 q2 q3 q4 q5 q6 q7 q8 q9 q10 q11 q12; go_simp))
   refine wx 6 92 (.agg #[.int .u8 kb, .int .i64 txb, .int .i64 nxb, .int .i64 id1b, .slice bo opsb.length bo1, .slice be evsb.length be1, .int .i64 tnb, .int .i64 tmb, .slice bi opb.length bi1, .int .i64 tab, .string nmb, .int .i64 nb, .int .i64 at1b]) rfl hHeld ?_ (hy := fun V hV => by (have hh := hV.heap (by simp) BX2.out; have q0 := cell_of_row V _ 0 _ _ _ hh; have q1 := cell_of_row V _ 1 _ _ _ hh; have q2 := cell_of_row V _ 2 _ _ _ hh; have q3 := cell_of_row V _ 3 _ _ _ hh; have q4 := cell_of_row V _ 4 _ _ _ hh; have q5 := cell_of_row V _ 5 _ _ _ hh; have q6 := cell_of_row V _ 6 _ _ _ hh; have q7 := cell_of_row V _ 7 _ _ _ hh; have q8 := cell_of_row V _ 8 _ _ _ hh; have q9 := cell_of_row V _ 9 _ _ _ hh; have q10 := cell_of_row V _ 10 _ _ _ hh; have q11 := cell_of_row V _ 11 _ _ _ hh; have q12 := cell_of_row V _ 12 _ _ _ hh; clear hV hh; simp only [List.getElem?_toArray, List.getElem?_cons_zero, List.getElem?_cons_succ] at q0 q1 q2 q3 q4 q5 q6 q7 q8 q9 q10 q11 q12; go_simp))
   refine wr1 1 rfl (fun KZ hK => ?_)
   go_simp
   go_at_call 13
   refine (HT1.out _ _ _ _ _ _ _ (RX1.out _ (Kept.refl w8 []).drew) (LX1.out _ (Kept.refl w8 []).drew)).mono ?_
   rintro e w10 ⟨po, po1, pe, pe1, rfl, r10, _, k10⟩
   have k10 := ((Kept.refl w8 []).drew).trans k10 (by simp)
   go_wp2_with fail
   refine hK.out _ _ k10 (fun hHeld => ?_)
   clear hK KZ
   refine wr1 3 rfl (fun KZ hK => ?_)
   go_simp
   go_at_call 13
   refine (HT2.out _ _ _ _ _ _ _ (RX2.out _ k10) (LX2.out _ k10)).mono ?_
   rintro e w11 ⟨qo, qo1, qe, qe1, rfl, r11, _, k11⟩
   have r10 := r10.keep k11
   have k11 := k10.trans k11 (by simp)
   clear k10
   go_wp2_with fail
   refine hK.out _ _ k11 (fun hHeld => ?_)
   clear hK KZ
   refine wr1 4 rfl (fun KZ hK => ?_)
   go_simp
   go_at_call 18
   refine (HSB.out _ _ _ _ _ _ _ _ _ _ _ _ _ r10 r11).mono ?_
   rintro e w12 ⟨rfl, k12⟩
   have k12 := k11.trans k12 (by simp)
   clear k11 r10 r11
   go_wp2_with fail
   refine hK.out _ _ k12 (fun hHeld => ?_)
   clear hK KZ
   refine wr1 7 rfl (fun KZ hK => ?_)
   go_simp
   go_at_call 19
   refine (HRB.out _ _ _ _ _ _ _ _ _ _ _ _ _ (RX1.out _ k12) (RX2.out _ k12)).mono ?_
   rintro e w13 ⟨rfl, k13⟩
   have k13 := k12.trans k13 (by simp)
   clear k12
   go_wp2_with fail
   refine hK.out _ _ k13 (fun hHeld => ?_)
   clear hK KZ
   refine wx 8 94 (.bool true) rfl hHeld ?_
   refine wx 9 95 (.bool true) rfl hHeld ?_
   refine wx 10 96 (.agg #[.int .u8 zk, .int .i64 ztx, .int .i64 znx, .int .i64 zid1, .slice zo zops.length zo1, .slice ze zevs.length ze1, .int .i64 ztn, .int .i64 ztm, .slice zi zop.length zi1, .int .i64 zta, .string znm, .int .i64 zn, .int .i64 zat1]) rfl hHeld ?_ (hy := fun V hV => by (have hh := hV.heap (by simp) BZ.out; have q0 := cell_of_row V _ 0 _ _ _ hh; have q1 := cell_of_row V _ 1 _ _ _ hh; have q2 := cell_of_row V _ 2 _ _ _ hh; have q3 := cell_of_row V _ 3 _ _ _ hh; have q4 := cell_of_row V _ 4 _ _ _ hh; have q5 := cell_of_row V _ 5 _ _ _ hh; have q6 := cell_of_row V _ 6 _ _ _ hh; have q7 := cell_of_row V _ 7 _ _ _ hh; have q8 := cell_of_row V _ 8 _ _ _ hh; have q9 := cell_of_row V _ 9 _ _ _ hh; have q10 := cell_of_row V _ 10 _ _ _ hh; have q11 := cell_of_row V _ 11 _ _ _ hh; have q12 := cell_of_row V _ 12 _ _ _ hh; clear hV hh; simp only [List.getElem?_toArray, List.getElem?_cons_zero, List.getElem?_cons_succ] at q0 q1 q2 q3 q4 q5 q6 q7 q8 q9 q10 q11 q12; go_simp))
   refine wx 11 97 (.agg #[.int .u8 zk, .int .i64 ztx, .int .i64 znx, .int .i64 zid1, .slice zo zops.length zo1, .slice ze zevs.length ze1, .int .i64 ztn, .int .i64 ztm, .slice zi zop.length zi1, .int .i64 zta, .string znm, .int .i64 zn, .int .i64 zat1]) rfl hHeld ?_ (hy := fun V hV => by (have hh := hV.heap (by simp) BZ.out; have q0 := cell_of_row V _ 0 _ _ _ hh; have q1 := cell_of_row V _ 1 _ _ _ hh; have q2 := cell_of_row V _ 2 _ _ _ hh; have q3 := cell_of_row V _ 3 _ _ _ hh; have q4 := cell_of_row V _ 4 _ _ _ hh; have q5 := cell_of_row V _ 5 _ _ _ hh; have q6 := cell_of_row V _ 6 _ _ _ hh; have q7 := cell_of_row V _ 7 _ _ _ hh; have q8 := cell_of_row V _ 8 _ _ _ hh; have q9 := cell_of_row V _ 9 _ _ _ hh; have q10 := cell_of_row V _ 10 _ _ _ hh; have q11 := cell_of_row V _ 11 _ _ _ hh; have q12 := cell_of_row V _ 12 _ _ _ hh; clear hV hh; simp only [List.getElem?_toArray, List.getElem?_cons_zero, List.getElem?_cons_succ] at q0 q1 q2 q3 q4 q5 q6 q7 q8 q9 q10 q11 q12; go_simp))
   refine wr1 12 rfl (fun KZ hK => ?_)
   go_simp
   go_at_call 18
   refine (HZZ.out _ (RXZ.out _ k13)).mono ?_
   rintro e w14 ⟨rfl, k14⟩
   have k14 := k13.trans k14 (by simp)
   clear k13
   go_wp2_with fail
   refine hK.out _ _ k14 (fun hHeld => ?_)
   clear hK KZ
   refine wx 13 99 (.bool true) rfl hHeld ?_
   refine wx 14 100 (.bool true) rfl hHeld ?_
   refine wx 15 101 (.agg #[.int .u8 zk, .int .i64 ztx, .int .i64 znx, .int .i64 zid1, .slice zo zops.length zo1, .slice ze zevs.length ze1, .int .i64 ztn, .int .i64 ztm, .slice zi zop.length zi1, .int .i64 zta, .string znm, .int .i64 zn, .int .i64 zat1]) rfl hHeld ?_ (hy := fun V hV => by (have hh := hV.heap (by simp) BZ.out; have q0 := cell_of_row V _ 0 _ _ _ hh; have q1 := cell_of_row V _ 1 _ _ _ hh; have q2 := cell_of_row V _ 2 _ _ _ hh; have q3 := cell_of_row V _ 3 _ _ _ hh; have q4 := cell_of_row V _ 4 _ _ _ hh; have q5 := cell_of_row V _ 5 _ _ _ hh; have q6 := cell_of_row V _ 6 _ _ _ hh; have q7 := cell_of_row V _ 7 _ _ _ hh; have q8 := cell_of_row V _ 8 _ _ _ hh; have q9 := cell_of_row V _ 9 _ _ _ hh; have q10 := cell_of_row V _ 10 _ _ _ hh; have q11 := cell_of_row V _ 11 _ _ _ hh; have q12 := cell_of_row V _ 12 _ _ _ hh; clear hV hh; simp only [List.getElem?_toArray, List.getElem?_cons_zero, List.getElem?_cons_succ] at q0 q1 q2 q3 q4 q5 q6 q7 q8 q9 q10 q11 q12; go_simp))
   refine wx 16 102 (.agg #[.int .u8 k, .int .i64 tx, .int .i64 nx, .int .i64 id1, .slice ao ops.length ao1, .slice ae evs.length ae1, .int .i64 tn, .int .i64 tm, .slice ai op.length ai1, .int .i64 ta, .string nm, .int .i64 n, .int .i64 at1]) rfl hHeld ?_ (hy := fun V hV => by (have hh := hV.heap (by simp) BX1.out; have q0 := cell_of_row V _ 0 _ _ _ hh; have q1 := cell_of_row V _ 1 _ _ _ hh; have q2 := cell_of_row V _ 2 _ _ _ hh; have q3 := cell_of_row V _ 3 _ _ _ hh; have q4 := cell_of_row V _ 4 _ _ _ hh; have q5 := cell_of_row V _ 5 _ _ _ hh; have q6 := cell_of_row V _ 6 _ _ _ hh; have q7 := cell_of_row V _ 7 _ _ _ hh; have q8 := cell_of_row V _ 8 _ _ _ hh; have q9 := cell_of_row V _ 9 _ _ _ hh; have q10 := cell_of_row V _ 10 _ _ _ hh; have q11 := cell_of_row V _ 11 _ _ _ hh; have q12 := cell_of_row V _ 12 _ _ _ hh; clear hV hh; simp only [List.getElem?_toArray, List.getElem?_cons_zero, List.getElem?_cons_succ] at q0 q1 q2 q3 q4 q5 q6 q7 q8 q9 q10 q11 q12; go_simp))
   refine wr1 17 rfl (fun KZ hK => ?_)
   go_simp
   go_at_call 13
   refine (HT1.out _ _ _ _ _ _ _ (RX1.out _ k14) (LX1.out _ k14)).mono ?_
   rintro e w15 ⟨po, po1, pe, pe1, rfl, r15, _, k15⟩
   have k15 := k14.trans k15 (by simp)
   clear k14
   go_wp2_with fail
   refine hK.out _ _ k15 (fun hHeld => ?_)
   clear hK KZ
   refine wr1 18 rfl (fun KZ hK => ?_)
   go_simp
   go_at_call 18
   refine (HZ1.out _ _ _ _ _ _ _ (RXZ.out _ k15) r15).mono ?_
   rintro e w16 ⟨rfl, k16⟩
   have k16 := k15.trans k16 (by simp)
   clear k15 r15
   go_wp2_with fail
   refine hK.out _ _ k16 (fun hHeld => ?_)
   clear hK KZ
   refine wx 19 105 (.bool true) rfl hHeld ?_
   refine wx 20 106 (.bool true) rfl hHeld ?_
   refine wx 21 6 (.bool true) rfl hHeld ?_
   refine wpAnyH_done (by kernel_rfl) ?_ _
   have K16 := Lib.hid (K8.out.trans k16 (by simp))
   clear k16 hHeld hBB
   go_wp2
   go_ret
   exact ⟨rfl, K16.out.below (Nat.le_refl _) (by simp)⟩

theorem lifted (os : Os) (started : os.Started) (H : Type) (enc : TypeId × Value → H) :
  ReturnsInHanded {} Try.checked os 7 .any (Rows.entrySameSpec.pre6 enc Try.prog Try.f7 Rows.entrySameRow.domain false) (Rows.entrySameSpec.post enc Try.prog Try.f7 false true false false) := by
 refine returnsInHanded_of_change (C := Try.checked) own started (by kernel_rfl) Try.func7
  (ChangeSpec.witness6 (enc := enc) (C := Try.checked) false ⟨#[], #[.agg #[.int .u8 0, .int .i64 0, .int .i64 0, .int .i64 0, .string ByteArray.empty, .int .u8 0, .slice none 0 0, .slice none 0 0, .string ByteArray.empty, .slice none 0 0, .slice none 0 0], .agg #[.int .u8 0, .int .i64 0, .int .i64 0, .int .i64 0, .string ByteArray.empty, .int .u8 0, .slice none 0 0, .slice none 0 0, .string ByteArray.empty, .slice none 0 0, .slice none 0 0], .int .u8 0], []⟩ 8 (by kernel_rfl) (by kernel_rfl) (by kernel_rfl) (by kernel_rfl)) ?_
 intro W base args ds gs before hval0 hW hcnd _
 have hval : ∀ (j : Nat) t v, Try.f7.params[j]? = some t → args[j]? = some v → Value.okWide Try.prog W .any base t v := hval0
 have hW' := hW
 obtain ⟨p, q, hA0, hV, rfl, hfz, hnd⟩ := hW
 have hA : DataW.TrodAll enc Try.prog W 0 (fun _ => true) true Try.f7.params.toList args.toList ds p := hA0
 rw [Try.params7] at hA hval
 obtain ⟨v0, vs0, d0, ds0, p0, q0, hargs, rfl, rfl, h0, r0⟩ := trodAll_cons hA
 obtain ⟨v1, vs1, d1, ds1, p1, q1, rfl, rfl, rfl, h1, r1⟩ := trodAll_cons r0
 obtain ⟨v2, vs2, d2, ds2, p2, q2, rfl, rfl, rfl, h2, r2⟩ := trodAll_cons r1
 obtain ⟨rfl, rfl, rfl⟩ := trodAll_nil r2
 obtain rfl : args = #[v0, v1, v2] := by cases args; simp_all
 obtain ⟨rfl, rfl⟩ := trodVars_none hV
 have k0 := h0
 have lt0 : ∀ x ∈ p0, x.block < W.heap.size := by obtain ⟨m, hm⟩ := k0; exact DataW.trod_lt m _ _ _ hm
 obtain ⟨raw0, vl0, vk0, vg0, vs0, bl0, bg0, bs0, rfl, w0, u0⟩ := raw_open (hval 0 25 v0 rfl rfl) h0
 have k1 := h1
 have lt1 : ∀ x ∈ p1, x.block < W.heap.size := by obtain ⟨m, hm⟩ := k1; exact DataW.trod_lt m _ _ _ hm
 obtain ⟨raw1, vl1, vk1, vg1, vs1, bl1, bg1, bs1, rfl, w1, u1⟩ := raw_open (hval 1 25 v1 rfl rfl) h1
 obtain ⟨a2, rfl, rfl, rfl, w2⟩ := open_int Try.underlying5 (hval 2 5 v2 rfl rfl) h2
 clear hA0 hval0
 refine (walk raw0 vl0 vk0 vg0 vs0 bl0 bg0 bs0 raw1 vl1 vk1 vg1 vs1 bl1 bg1 bs1 a2 W w0 u0 w1 u1 w2).mono fun e W' ⟨he, bel⟩ => ?_
 subst he
 exact ⟨_, rfl, _, _, _, [], _, [], hW', trodAll_mk1 (shut_bool Try.underlying4 _), (trodAll_cons_mk (Below.trod laidOut (by kernel_rfl) (of_decide_eq_true (by kernel_rfl)) k0 bel lt0) (trodAll_cons_mk (Below.trod laidOut (by kernel_rfl) (of_decide_eq_true (by kernel_rfl)) k1 bel lt1) (trodAll_cons_mk (shut_int Try.underlying5 w2) trodAll_mk0))), rfl, bel.frame _, fun h => by cases h⟩

theorem over : Rows.entrySameRow.holds Try.pinned (OpenSpec.ofChange Rows.entrySameSpec) :=
 OpenClaim.holds_of_wide 7 Try.f7 rfl rfl rfl rfl rfl rfl rfl ⟨rfl, rfl, rfl, rfl, rfl⟩ rfl rfl rfl rfl rfl (by kernel_rfl) Try.func7 (by kernel_rfl)
  (of_decide_eq_true (by kernel_rfl)) (by unfold Func.isWrapper; first | (rw [if_pos (by decide +kernel)]; kernel_rfl) | (rw [if_neg (by decide +kernel)]; exact ⟨rfl, rfl⟩))
  (fun os started H enc _ => lifted os started H enc)

theorem proved : Rows.EntrySameSaid :=
 over
end Go.Proofs.Ytjdbmlifekghfaa.entrySame

namespace Go.Proofs.Ytjdbmlifekghfaa
theorem entrySame_holds : Rows.EntrySameSaid := entrySame.proved
#print axioms entrySame_holds
end Go.Proofs.Ytjdbmlifekghfaa

