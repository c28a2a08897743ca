/-
  Eoe in one text.
-/
import Derived.Test.YtjdbmlifekghfaaEt0
import Derived.Test.YtjdbmlifekghfaaEt12
set_option linter.unusedVariables false
set_option maxHeartbeats 16000000
set_option maxRecDepth 100000
namespace Go.Proofs.Ytjdbmlifekghfaa
open Go.RowKit
theorem nums_new {B p n : Nat} {v0 v1 : Value} {l : List UInt8} {W0 V : World} {us : Array Value} (xs : List Int) (s : Wtp W0 V [p] v0 v1) (g : Wr wB V B p v1 l) (hB : B <= W0.heap.size) (hu : us.toList = ic xs) (hn : xs.length = n) (hx : ∀ x ∈ xs, whole x) (h10 : n <= 10) (hl : l.length <= 100000000) :
  Calls Try.prog 49 #[.pointer (some ⟨p, 0, none⟩), .slice (some ⟨V.heap.size, 0, none⟩) n n] (V.alloc (.cells us 2)) fun e w' => e = .returned (.tuple #[]) /\ ∃ v', Wr wB w' B p v' (l ++ xqf xqb xs) /\ Wtp W0 w' [p] v0 v' := by
 have hs := s.1.size
 refine (nums_any B p v1 l _ xs _ (g.alloc _) (by simp; omega) (rdI_new (heap_alloc_new V _) hu hn (by omega)) hx (by omega) (fun b hb => by simp only [Value.ownBlock, Option.some.injEq] at hb; subst hb; exact g.far (Nat.le_refl _)) (by omega)).mono ?_
 rintro e w' ⟨rfl, v', h1, h2⟩
 exact ⟨rfl, v', h1, (s.alloc _).trans h2⟩
theorem opsL_len {l : List Ox} (h : ∀ o ∈ l, o.Right) (hn : l.length <= 255) : (opsL l).length <= 25600 := by
 have h1 := xqA Ox.encL 100 l (fun y hy => Ox.encL_len (h y hy))
 have h2 := xqc (n := l.length) (by omega)
 simp only [opsL, List.length_append]; omega
theorem evsL_len {l : List Px} (h : ∀ o ∈ l, o.Right) (hn : l.length <= 255) : (evsL l).length <= 76600 := by
 have h1 := xqA Px.encL 300 l (fun y hy => Px.encL_len (h y hy))
 have h2 := xqc (n := l.length) (by omega)
 simp only [evsL, List.length_append]; omega
theorem openL_len {l : List Int} (h : ∀ o ∈ l, whole o) (hn : l.length <= 255) : (openL l).length <= 2560 := by
 have h1 := xqA xqb 10 l (fun y hy => xqc (by have := (h y hy).2; omega))
 have h2 := xqc (n := l.length) (by omega)
 simp only [openL, List.length_append]; omega
theorem xqe {n : Int} (h : whole n) : (xqb n).length <= 10 := xqc (by have := h.2; omega)
theorem xqT {n : Int} (h : -9223372036854775808 <= n /\ n <= 9223372036854775807) : (intL n).length <= 10 := xqc (Lib.zigzag_lt h.1 h.2)
theorem xqz {s : ByteArray} (h : s.size <= 40) : (xqr s.data.toList).length <= 50 := by
 have h1 := xqc (n := s.data.toList.length) (by rw [xqk]; omega)
 have h2 := xqk s
 simp only [xqr, List.length_append]; omega
structure Lay (w : World) (e : En) (vo ve vi : Value) (p : Nat) (v : Value) : Prop where
 r : e.Right
 d : RdN w e vo ve vi
 fo : ∀ b, vo.ownBlock = some b -> Far p v b /\ b < w.heap.size
 fe : ∀ b, ve.ownBlock = some b -> Far p v b /\ b < w.heap.size
 fi : ∀ b, vi.ownBlock = some b -> Far p v b /\ b < w.heap.size
theorem Lay.lens {w : World} {e : En} {vo ve vi : Value} {p : Nat} {v : Value} (h : Lay w e vo ve vi p v) :
  (xqb e.tx).length <= 10 /\ (xqb e.nx).length <= 10 /\ (xqb e.id).length <= 10 /\ (opsL e.ops).length <= 25600 /\ (evsL e.evs).length <= 76600 /\ (xqr e.nm.data.toList).length <= 50 /\ (xqb e.n).length <= 10 :=
 ⟨xqe h.r.tx, xqe h.r.nx, xqe h.r.id, opsL_len h.r.ops h.r.nops, evsL_len h.r.evs h.r.nevs, xqz h.r.nm, xqe h.r.n⟩
theorem Wtp.farB {a w a0 : World} {p : Nat} {v v' sv : Value} (s : Wtp a w [p] v v') (hz : a0.heap.size <= a.heap.size) (hb : ∀ b, sv.ownBlock = some b -> Far p v b /\ b < a0.heap.size) : ∀ b, sv.ownBlock = some b -> Far p v' b :=
 fun b hb' => s.far (hb b hb').1 (by have := (hb b hb').2; omega)
theorem wp1 (B p : Nat) (v vo ve vi : Value) (tx nx id : Int) (ops : List Ox) (evs : List Px) (tn tm : Int) (op : List Int) (ta : Int) (nm : ByteArray) (n at1 : Int) (l : List UInt8) (w : World) (W : Wr wB w B p v l) (hB : B <= w.heap.size) (L : Lay w (⟨1, tx, nx, id, ops, evs, tn, tm, op, ta, nm, n, at1⟩ : En) vo ve vi p v) (hl' : l.length <= 1000000) :
  Calls Try.prog 27 #[.pointer (some ⟨p, 0, none⟩), .agg #[.int .u8 1, .int .i64 tx, .int .i64 nx, .int .i64 id, vo, ve, .int .i64 tn, .int .i64 tm, vi, .int .i64 ta, .string nm, .int .i64 n, .int .i64 at1]] w fun e w' => e = .returned (.tuple #[]) /\ ∃ v', Wr wB w' B p v' (l ++ (⟨1, tx, nx, id, ops, evs, tn, tm, op, ta, nm, n, at1⟩ : En).b1) /\ Wtp w w' [p] v v' := by
 obtain ⟨W1, hW1⟩ : ∃ W1, W1 = w.alloc (.cells #[.int .u8 1, .int .i64 tx, .int .i64 nx, .int .i64 id, vo, ve, .int .i64 tn, .int .i64 tm, vi, .int .i64 ta, .string nm, .int .i64 n, .int .i64 at1] 41) := ⟨_, rfl⟩
 have k1 : Kept w W1 [] := by rw [hW1]; exact (Kept.refl w []).alloc _
 have b1 : W1.heap[w.heap.size]? = some (.cells #[.int .u8 1, .int .i64 tx, .int .i64 nx, .int .i64 id, vo, ve, .int .i64 tn, .int .i64 tm, vi, .int .i64 ta, .string nm, .int .i64 n, .int .i64 at1] 41 (0, 0)) := by rw [hW1]; exact heap_alloc_new w _
 have fb : Far p v w.heap.size := W.far (Nat.le_refl _)
 have CS : RowKit.Hid (∀ V v', Wtp W1 V [p] v v' -> ∀ j, V.cell? ⟨w.heap.size, j, none⟩ = (#[.int .u8 1, .int .i64 tx, .int .i64 nx, .int .i64 id, vo, ve, .int .i64 tn, .int .i64 tm, vi, .int .i64 ta, .string nm, .int .i64 n, .int .i64 at1] : Array Value)[j]?) := iH (fun V v' s j => cell_of_row V _ j _ _ _ (s.heap fb b1))
 have S1 : RowKit.Hid (Wtp w W1 [p] v v) := iH ⟨k1.mono (by simp), .inl rfl⟩
 have G1 := iH (W.kept k1 (by simp) (by simp))
 have SZ : RowKit.Hid (B <= W1.heap.size) := iH (Nat.le_trans hB k1.size)
 have LE : RowKit.Hid ((xqb tx).length <= 10 /\ (xqb nx).length <= 10 /\ (xqb id).length <= 10 /\ (opsL ops).length <= 25600 /\ (evsL evs).length <= 76600 /\ (xqr nm.data.toList).length <= 50 /\ (xqb n).length <= 10) := iH L.lens
 have RD := iH (show RdN W1 (⟨1, tx, nx, id, ops, evs, tn, tm, op, ta, nm, n, at1⟩ : En) vo ve vi from L.d.keep k1)
 have LY := iH L; have HL := iH hl'
 obtain ⟨oa, oc, hvo⟩ := L.d.ro.shape
 obtain ⟨ea, ec, hve⟩ := L.d.re.shape
 obtain ⟨ia, ic1, hvi, _⟩ := _root_.id L.d.ri
 dsimp only at hvo hve hvi
 subst hvo hve hvi
 clear k1 b1 fb W hB L hl'
 have E0 := iH (Wtp.refl W1 [p] v)
 go_enter Try.func27, Try.ntmps27
 go_upto_region 1 with fail
 rw [<- hW1]
 clear hW1
 have ck : W1.cell? ⟨w.heap.size, 0, none⟩ = some (.int .u8 1) := CS.out _ _ E0.out 0
 have y1 : W1.cell? ⟨w.heap.size, 1, none⟩ = some (.int .i64 tx) := CS.out _ _ E0.out 1
 have y2 : W1.cell? ⟨w.heap.size, 2, none⟩ = some (.int .i64 nx) := CS.out _ _ E0.out 2
 have y3 : W1.cell? ⟨w.heap.size, 3, none⟩ = some (.int .i64 id) := CS.out _ _ E0.out 3
 go_wp2_with fail
 refine (nums_new [tx, nx, id] E0.out G1.out SZ.out rfl rfl (by intro x hx; simp only [List.mem_cons, List.not_mem_nil, or_false] at hx; rcases hx with rfl | rfl | rfl; exact LY.out.r.tx; exact LY.out.r.nx; exact LY.out.r.id) (by simp) (by have h1 := LE.out; have h2 := HL.out; first | omega | (simp only [List.length_append]; omega) | (simp only [xqf, List.length_append, List.length_nil]; omega))).mono ?_
 rintro e w2 ⟨rfl, v2, g9, s9⟩
 have G2 := iH g9; have E2 := iH s9
 clear g9 s9 y1 y2 y3
 have y4 : w2.cell? ⟨w.heap.size, 4, none⟩ = some (.slice oa ops.length oc) := CS.out _ _ E2.out 4
 go_wp2_with fail
 refine (wops_any B p v2 _ _ ops w2 G2.out (Nat.le_trans SZ.out E2.out.1.size) (E2.out.rdK RD.out.ro (fun b hb => (LY.out.fo b hb).1)) (E2.out.farB S1.out.1.size LY.out.fo) LY.out.r.ops LY.out.r.nops (by have h1 := LE.out; have h2 := HL.out; first | omega | (simp only [List.length_append]; omega) | (simp only [xqf, List.length_append, List.length_nil]; omega))).mono ?_
 rintro e w3 ⟨rfl, v3, g9, s9⟩
 have G3 := iH g9; have E3 := iH (E2.out.trans s9)
 clear g9 s9 y4
 have y5 : w3.cell? ⟨w.heap.size, 5, none⟩ = some (.slice ea evs.length ec) := CS.out _ _ E3.out 5
 go_wp2_with fail
 refine (wevs_any B p v3 _ _ evs w3 G3.out (Nat.le_trans SZ.out E3.out.1.size) (E3.out.rdK RD.out.re (fun b hb => (LY.out.fe b hb).1)) (E3.out.farB S1.out.1.size LY.out.fe) LY.out.r.evs LY.out.r.nevs (by have h1 := LE.out; have h2 := HL.out; first | omega | (simp only [List.length_append]; omega) | (simp only [xqf, List.length_append, List.length_nil]; omega))).mono ?_
 rintro e w4 ⟨rfl, v4, g9, s9⟩
 have G4 := iH g9; have E4 := iH (E3.out.trans s9)
 clear g9 s9 y5
 go_wp2
 go_end0
 refine ⟨rfl, v4, ?_, S1.out.trans E4.out⟩
 have := G4.out
 simpa only [En.b1, xqf, List.append_nil, List.append_assoc] using this
theorem wp8 (B p : Nat) (v vo ve vi : Value) (tx nx id : Int) (ops : List Ox) (evs : List Px) (tn tm : Int) (op : List Int) (ta : Int) (nm : ByteArray) (n at1 : Int) (l : List UInt8) (w : World) (W : Wr wB w B p v l) (hB : B <= w.heap.size) (L : Lay w (⟨8, tx, nx, id, ops, evs, tn, tm, op, ta, nm, n, at1⟩ : En) vo ve vi p v) (hl' : l.length <= 1000000) :
  Calls Try.prog 27 #[.pointer (some ⟨p, 0, none⟩), .agg #[.int .u8 8, .int .i64 tx, .int .i64 nx, .int .i64 id, vo, ve, .int .i64 tn, .int .i64 tm, vi, .int .i64 ta, .string nm, .int .i64 n, .int .i64 at1]] w fun e w' => e = .returned (.tuple #[]) /\ ∃ v', Wr wB w' B p v' (l ++ (⟨8, tx, nx, id, ops, evs, tn, tm, op, ta, nm, n, at1⟩ : En).b8) /\ Wtp w w' [p] v v' := by
 obtain ⟨W1, hW1⟩ : ∃ W1, W1 = w.alloc (.cells #[.int .u8 8, .int .i64 tx, .int .i64 nx, .int .i64 id, vo, ve, .int .i64 tn, .int .i64 tm, vi, .int .i64 ta, .string nm, .int .i64 n, .int .i64 at1] 41) := ⟨_, rfl⟩
 have k1 : Kept w W1 [] := by rw [hW1]; exact (Kept.refl w []).alloc _
 have b1 : W1.heap[w.heap.size]? = some (.cells #[.int .u8 8, .int .i64 tx, .int .i64 nx, .int .i64 id, vo, ve, .int .i64 tn, .int .i64 tm, vi, .int .i64 ta, .string nm, .int .i64 n, .int .i64 at1] 41 (0, 0)) := by rw [hW1]; exact heap_alloc_new w _
 have fb : Far p v w.heap.size := W.far (Nat.le_refl _)
 have CS : RowKit.Hid (∀ V v', Wtp W1 V [p] v v' -> ∀ j, V.cell? ⟨w.heap.size, j, none⟩ = (#[.int .u8 8, .int .i64 tx, .int .i64 nx, .int .i64 id, vo, ve, .int .i64 tn, .int .i64 tm, vi, .int .i64 ta, .string nm, .int .i64 n, .int .i64 at1] : Array Value)[j]?) := iH (fun V v' s j => cell_of_row V _ j _ _ _ (s.heap fb b1))
 have S1 : RowKit.Hid (Wtp w W1 [p] v v) := iH ⟨k1.mono (by simp), .inl rfl⟩
 have G1 := iH (W.kept k1 (by simp) (by simp))
 have SZ : RowKit.Hid (B <= W1.heap.size) := iH (Nat.le_trans hB k1.size)
 have LE : RowKit.Hid ((xqb tx).length <= 10 /\ (xqb nx).length <= 10 /\ (xqb id).length <= 10 /\ (opsL ops).length <= 25600 /\ (evsL evs).length <= 76600 /\ (xqr nm.data.toList).length <= 50 /\ (xqb n).length <= 10) := iH L.lens
 have RD := iH (show RdN W1 (⟨8, tx, nx, id, ops, evs, tn, tm, op, ta, nm, n, at1⟩ : En) vo ve vi from L.d.keep k1)
 have LY := iH L; have HL := iH hl'
 obtain ⟨oa, oc, hvo⟩ := L.d.ro.shape
 obtain ⟨ea, ec, hve⟩ := L.d.re.shape
 obtain ⟨ia, ic1, hvi, _⟩ := _root_.id L.d.ri
 dsimp only at hvo hve hvi
 subst hvo hve hvi
 clear k1 b1 fb W hB L hl'
 have E0 := iH (Wtp.refl W1 [p] v)
 go_enter Try.func27, Try.ntmps27
 go_upto_region 1 with fail
 rw [<- hW1]
 clear hW1
 have ck : W1.cell? ⟨w.heap.size, 0, none⟩ = some (.int .u8 8) := CS.out _ _ E0.out 0
 have y1 : W1.cell? ⟨w.heap.size, 1, none⟩ = some (.int .i64 tx) := CS.out _ _ E0.out 1
 have y2 : W1.cell? ⟨w.heap.size, 2, none⟩ = some (.int .i64 nx) := CS.out _ _ E0.out 2
 have y3 : W1.cell? ⟨w.heap.size, 3, none⟩ = some (.int .i64 id) := CS.out _ _ E0.out 3
 go_wp2_with fail
 refine (nums_new [tx, nx, id] E0.out G1.out SZ.out rfl rfl (by intro x hx; simp only [List.mem_cons, List.not_mem_nil, or_false] at hx; rcases hx with rfl | rfl | rfl; exact LY.out.r.tx; exact LY.out.r.nx; exact LY.out.r.id) (by simp) (by have h1 := LE.out; have h2 := HL.out; first | omega | (simp only [List.length_append]; omega) | (simp only [xqf, List.length_append, List.length_nil]; omega))).mono ?_
 rintro e w2 ⟨rfl, v2, g9, s9⟩
 have G2 := iH g9; have E2 := iH s9
 clear g9 s9 y1 y2 y3
 have y5 : w2.cell? ⟨w.heap.size, 5, none⟩ = some (.slice ea evs.length ec) := CS.out _ _ E2.out 5
 go_wp2_with fail
 refine (wevs_any B p v2 _ _ evs w2 G2.out (Nat.le_trans SZ.out E2.out.1.size) (E2.out.rdK RD.out.re (fun b hb => (LY.out.fe b hb).1)) (E2.out.farB S1.out.1.size LY.out.fe) LY.out.r.evs LY.out.r.nevs (by have h1 := LE.out; have h2 := HL.out; first | omega | (simp only [List.length_append]; omega) | (simp only [xqf, List.length_append, List.length_nil]; omega))).mono ?_
 rintro e w3 ⟨rfl, v3, g9, s9⟩
 have G3 := iH g9; have E3 := iH (E2.out.trans s9)
 clear g9 s9 y5
 have k8 := G3.out.drew
 have t8 := E3.out.drew
 have y2 : w3.drew.cell? ⟨w.heap.size, 12, none⟩ = some (.int .i64 at1) := CS.out _ _ t8 12
 go_wp2_with fail
 go_region_held3 (fun V => V.cell? ⟨w.heap.size, 12, none⟩ = some (.int .i64 at1)) (exact y2)
  (first
   | (go_at_call 52; refine (int_any B p v3 _ at1 _ k8 ?_ LY.out.r.at' ?_).mono ?_; (have := SZ.out; have := t8.1.size; omega); (have h1 := LE.out; have h2 := HL.out; first | omega | (simp only [List.length_append]; omega) | (simp only [xqf, List.length_append, List.length_nil]; omega)); rintro e w4 ⟨rfl, v4, g4, s4⟩; have t4 := t8.trans s4; have y2 : w4.cell? ⟨w.heap.size, 12, none⟩ = some (.int .i64 at1) := CS.out _ _ t4 12))
 have G4 := iH g4; have E4 := iH t4
 clear g4 s4 t4 y2 k8 t8
 go_wp2
 go_end0
 refine ⟨rfl, v4, ?_, S1.out.trans E4.out⟩
 have := G4.out
 simpa only [En.b8, xqf, List.append_nil, List.append_assoc] using this
theorem wp2 (B p : Nat) (v vo ve vi : Value) (tx nx id : Int) (ops : List Ox) (evs : List Px) (tn tm : Int) (op : List Int) (ta : Int) (nm : ByteArray) (n at1 : Int) (l : List UInt8) (w : World) (W : Wr wB w B p v l) (hB : B <= w.heap.size) (L : Lay w (⟨2, tx, nx, id, ops, evs, tn, tm, op, ta, nm, n, at1⟩ : En) vo ve vi p v) (hl' : l.length <= 1000000) :
  Calls Try.prog 27 #[.pointer (some ⟨p, 0, none⟩), .agg #[.int .u8 2, .int .i64 tx, .int .i64 nx, .int .i64 id, vo, ve, .int .i64 tn, .int .i64 tm, vi, .int .i64 ta, .string nm, .int .i64 n, .int .i64 at1]] w fun e w' => e = .returned (.tuple #[]) /\ ∃ v', Wr wB w' B p v' (l ++ (⟨2, tx, nx, id, ops, evs, tn, tm, op, ta, nm, n, at1⟩ : En).b2) /\ Wtp w w' [p] v v' := by
 obtain ⟨W1, hW1⟩ : ∃ W1, W1 = w.alloc (.cells #[.int .u8 2, .int .i64 tx, .int .i64 nx, .int .i64 id, vo, ve, .int .i64 tn, .int .i64 tm, vi, .int .i64 ta, .string nm, .int .i64 n, .int .i64 at1] 41) := ⟨_, rfl⟩
 have k1 : Kept w W1 [] := by rw [hW1]; exact (Kept.refl w []).alloc _
 have b1 : W1.heap[w.heap.size]? = some (.cells #[.int .u8 2, .int .i64 tx, .int .i64 nx, .int .i64 id, vo, ve, .int .i64 tn, .int .i64 tm, vi, .int .i64 ta, .string nm, .int .i64 n, .int .i64 at1] 41 (0, 0)) := by rw [hW1]; exact heap_alloc_new w _
 have fb : Far p v w.heap.size := W.far (Nat.le_refl _)
 have CS : RowKit.Hid (∀ V v', Wtp W1 V [p] v v' -> ∀ j, V.cell? ⟨w.heap.size, j, none⟩ = (#[.int .u8 2, .int .i64 tx, .int .i64 nx, .int .i64 id, vo, ve, .int .i64 tn, .int .i64 tm, vi, .int .i64 ta, .string nm, .int .i64 n, .int .i64 at1] : Array Value)[j]?) := iH (fun V v' s j => cell_of_row V _ j _ _ _ (s.heap fb b1))
 have S1 : RowKit.Hid (Wtp w W1 [p] v v) := iH ⟨k1.mono (by simp), .inl rfl⟩
 have G1 := iH (W.kept k1 (by simp) (by simp))
 have SZ : RowKit.Hid (B <= W1.heap.size) := iH (Nat.le_trans hB k1.size)
 have LE : RowKit.Hid ((xqb tx).length <= 10 /\ (xqb nx).length <= 10 /\ (xqb id).length <= 10 /\ (opsL ops).length <= 25600 /\ (evsL evs).length <= 76600 /\ (xqr nm.data.toList).length <= 50 /\ (xqb n).length <= 10) := iH L.lens
 have RD := iH (show RdN W1 (⟨2, tx, nx, id, ops, evs, tn, tm, op, ta, nm, n, at1⟩ : En) vo ve vi from L.d.keep k1)
 have LY := iH L; have HL := iH hl'
 obtain ⟨oa, oc, hvo⟩ := L.d.ro.shape
 obtain ⟨ea, ec, hve⟩ := L.d.re.shape
 obtain ⟨ia, ic1, hvi, _⟩ := _root_.id L.d.ri
 dsimp only at hvo hve hvi
 subst hvo hve hvi
 clear k1 b1 fb W hB L hl'
 have E0 := iH (Wtp.refl W1 [p] v)
 go_enter Try.func27, Try.ntmps27
 go_upto_region 1 with fail
 rw [<- hW1]
 clear hW1
 have ck : W1.cell? ⟨w.heap.size, 0, none⟩ = some (.int .u8 2) := CS.out _ _ E0.out 0
 have y6 : W1.cell? ⟨w.heap.size, 6, none⟩ = some (.int .i64 tn) := CS.out _ _ E0.out 6
 have y7 : W1.cell? ⟨w.heap.size, 7, none⟩ = some (.int .i64 tm) := CS.out _ _ E0.out 7
 have y8 : W1.cell? ⟨w.heap.size, 8, none⟩ = some (.slice ia op.length ic1) := CS.out _ _ E0.out 8
 have y9 : W1.cell? ⟨w.heap.size, 9, none⟩ = some (.int .i64 ta) := CS.out _ _ E0.out 9
 go_wp2_with fail
 refine (wtick_any B p v _ tn tm ta _ op W1 G1.out (Nat.le_trans SZ.out E0.out.1.size) (E0.out.rdI RD.out.ri (fun b hb => (LY.out.fi b hb).1)) (E0.out.farB S1.out.1.size LY.out.fi) LY.out.r.op LY.out.r.nop LY.out.r.tn LY.out.r.tm LY.out.r.ta (by have h1 := LE.out; have h2 := HL.out; first | omega | (simp only [List.length_append]; omega) | (simp only [xqf, List.length_append, List.length_nil]; omega))).mono ?_
 rintro e w2 ⟨rfl, v2, g9, s9⟩
 have G2 := iH g9; have E2 := iH (E0.out.trans s9)
 clear g9 s9 y6 y7 y8 y9
 go_wp2
 go_end0
 refine ⟨rfl, v2, ?_, S1.out.trans E2.out⟩
 have := G2.out
 simpa only [En.b2, xqf, List.append_nil, List.append_assoc] using this
theorem wp3 (B p : Nat) (v vo ve vi : Value) (k : Int) (hk : k = 3 ∨ k = 4 ∨ k = 5 ∨ k = 6) (tx nx id : Int) (ops : List Ox) (evs : List Px) (tn tm : Int) (op : List Int) (ta : Int) (nm : ByteArray) (n at1 : Int) (l : List UInt8) (w : World) (W : Wr wB w B p v l) (hB : B <= w.heap.size) (L : Lay w (⟨k, tx, nx, id, ops, evs, tn, tm, op, ta, nm, n, at1⟩ : En) vo ve vi p v) (hl' : l.length <= 1000000) :
  Calls Try.prog 27 #[.pointer (some ⟨p, 0, none⟩), .agg #[.int .u8 k, .int .i64 tx, .int .i64 nx, .int .i64 id, vo, ve, .int .i64 tn, .int .i64 tm, vi, .int .i64 ta, .string nm, .int .i64 n, .int .i64 at1]] w fun e w' => e = .returned (.tuple #[]) /\ ∃ v', Wr wB w' B p v' (l ++ (⟨k, tx, nx, id, ops, evs, tn, tm, op, ta, nm, n, at1⟩ : En).b3) /\ Wtp w w' [p] v v' := by
 obtain ⟨W1, hW1⟩ : ∃ W1, W1 = w.alloc (.cells #[.int .u8 k, .int .i64 tx, .int .i64 nx, .int .i64 id, vo, ve, .int .i64 tn, .int .i64 tm, vi, .int .i64 ta, .string nm, .int .i64 n, .int .i64 at1] 41) := ⟨_, rfl⟩
 have k1 : Kept w W1 [] := by rw [hW1]; exact (Kept.refl w []).alloc _
 have b1 : W1.heap[w.heap.size]? = some (.cells #[.int .u8 k, .int .i64 tx, .int .i64 nx, .int .i64 id, vo, ve, .int .i64 tn, .int .i64 tm, vi, .int .i64 ta, .string nm, .int .i64 n, .int .i64 at1] 41 (0, 0)) := by rw [hW1]; exact heap_alloc_new w _
 have fb : Far p v w.heap.size := W.far (Nat.le_refl _)
 have CS : RowKit.Hid (∀ V v', Wtp W1 V [p] v v' -> ∀ j, V.cell? ⟨w.heap.size, j, none⟩ = (#[.int .u8 k, .int .i64 tx, .int .i64 nx, .int .i64 id, vo, ve, .int .i64 tn, .int .i64 tm, vi, .int .i64 ta, .string nm, .int .i64 n, .int .i64 at1] : Array Value)[j]?) := iH (fun V v' s j => cell_of_row V _ j _ _ _ (s.heap fb b1))
 have S1 : RowKit.Hid (Wtp w W1 [p] v v) := iH ⟨k1.mono (by simp), .inl rfl⟩
 have G1 := iH (W.kept k1 (by simp) (by simp))
 have SZ : RowKit.Hid (B <= W1.heap.size) := iH (Nat.le_trans hB k1.size)
 have LE : RowKit.Hid ((xqb tx).length <= 10 /\ (xqb nx).length <= 10 /\ (xqb id).length <= 10 /\ (opsL ops).length <= 25600 /\ (evsL evs).length <= 76600 /\ (xqr nm.data.toList).length <= 50 /\ (xqb n).length <= 10) := iH L.lens
 have RD := iH (show RdN W1 (⟨k, tx, nx, id, ops, evs, tn, tm, op, ta, nm, n, at1⟩ : En) vo ve vi from L.d.keep k1)
 have LY := iH L; have HL := iH hl'
 obtain ⟨oa, oc, hvo⟩ := L.d.ro.shape
 obtain ⟨ea, ec, hve⟩ := L.d.re.shape
 obtain ⟨ia, ic1, hvi, _⟩ := _root_.id L.d.ri
 dsimp only at hvo hve hvi
 subst hvo hve hvi
 clear k1 b1 fb W hB L hl'
 have E0 := iH (Wtp.refl W1 [p] v)
 rcases hk with rfl | rfl | rfl | rfl
 all_goals
  go_enter Try.func27, Try.ntmps27
  go_upto_region 1 with fail
  rw [<- hW1]
  clear hW1
  have ck : W1.cell? ⟨w.heap.size, 0, none⟩ = some (.int .u8 _) := CS.out _ _ E0.out 0
  have y10 : W1.cell? ⟨w.heap.size, 10, none⟩ = some (.string nm) := CS.out _ _ E0.out 10
  go_wp2_with fail
  refine (etext_any B p v _ nm W1 G1.out (Nat.le_trans SZ.out E0.out.1.size) LY.out.r.nm (by have h1 := LE.out; have h2 := HL.out; first | omega | (simp only [List.length_append]; omega) | (simp only [xqf, List.length_append, List.length_nil]; omega))).mono ?_
  rintro e w2 ⟨rfl, v2, g9, s9⟩
  have G2 := iH g9; have E2 := iH (E0.out.trans s9)
  clear g9 s9 y10
  have y11 : w2.cell? ⟨w.heap.size, 11, none⟩ = some (.int .i64 n) := CS.out _ _ E2.out 11
  go_wp2_with fail
  refine (nums_new [n] E2.out G2.out SZ.out rfl rfl (by intro x hx; simp only [List.mem_cons, List.not_mem_nil, or_false] at hx; rcases hx with rfl; exact LY.out.r.n) (by simp) (by have h1 := LE.out; have h2 := HL.out; first | omega | (simp only [List.length_append]; omega) | (simp only [xqf, List.length_append, List.length_nil]; omega))).mono ?_
  rintro e w3 ⟨rfl, v3, g9, s9⟩
  have G3 := iH g9; have E3 := iH s9
  clear g9 s9 y11
  go_wp2
  go_end0
  refine ⟨rfl, v3, ?_, S1.out.trans E3.out⟩
  have := G3.out
  simpa only [En.b3, xqf, List.append_nil, List.append_assoc] using this
theorem wp7 (B p : Nat) (v vo ve vi : Value) (tx nx id : Int) (ops : List Ox) (evs : List Px) (tn tm : Int) (op : List Int) (ta : Int) (nm : ByteArray) (n at1 : Int) (l : List UInt8) (w : World) (W : Wr wB w B p v l) (hB : B <= w.heap.size) (L : Lay w (⟨7, tx, nx, id, ops, evs, tn, tm, op, ta, nm, n, at1⟩ : En) vo ve vi p v) (hl' : l.length <= 1000000) :
  Calls Try.prog 27 #[.pointer (some ⟨p, 0, none⟩), .agg #[.int .u8 7, .int .i64 tx, .int .i64 nx, .int .i64 id, vo, ve, .int .i64 tn, .int .i64 tm, vi, .int .i64 ta, .string nm, .int .i64 n, .int .i64 at1]] w fun e w' => e = .returned (.tuple #[]) /\ ∃ v', Wr wB w' B p v' (l ++ (⟨7, tx, nx, id, ops, evs, tn, tm, op, ta, nm, n, at1⟩ : En).b7) /\ Wtp w w' [p] v v' := by
 obtain ⟨W1, hW1⟩ : ∃ W1, W1 = w.alloc (.cells #[.int .u8 7, .int .i64 tx, .int .i64 nx, .int .i64 id, vo, ve, .int .i64 tn, .int .i64 tm, vi, .int .i64 ta, .string nm, .int .i64 n, .int .i64 at1] 41) := ⟨_, rfl⟩
 have k1 : Kept w W1 [] := by rw [hW1]; exact (Kept.refl w []).alloc _
 have b1 : W1.heap[w.heap.size]? = some (.cells #[.int .u8 7, .int .i64 tx, .int .i64 nx, .int .i64 id, vo, ve, .int .i64 tn, .int .i64 tm, vi, .int .i64 ta, .string nm, .int .i64 n, .int .i64 at1] 41 (0, 0)) := by rw [hW1]; exact heap_alloc_new w _
 have fb : Far p v w.heap.size := W.far (Nat.le_refl _)
 have CS : RowKit.Hid (∀ V v', Wtp W1 V [p] v v' -> ∀ j, V.cell? ⟨w.heap.size, j, none⟩ = (#[.int .u8 7, .int .i64 tx, .int .i64 nx, .int .i64 id, vo, ve, .int .i64 tn, .int .i64 tm, vi, .int .i64 ta, .string nm, .int .i64 n, .int .i64 at1] : Array Value)[j]?) := iH (fun V v' s j => cell_of_row V _ j _ _ _ (s.heap fb b1))
 have S1 : RowKit.Hid (Wtp w W1 [p] v v) := iH ⟨k1.mono (by simp), .inl rfl⟩
 have G1 := iH (W.kept k1 (by simp) (by simp))
 have SZ : RowKit.Hid (B <= W1.heap.size) := iH (Nat.le_trans hB k1.size)
 have LE : RowKit.Hid ((xqb tx).length <= 10 /\ (xqb nx).length <= 10 /\ (xqb id).length <= 10 /\ (opsL ops).length <= 25600 /\ (evsL evs).length <= 76600 /\ (xqr nm.data.toList).length <= 50 /\ (xqb n).length <= 10) := iH L.lens
 have RD := iH (show RdN W1 (⟨7, tx, nx, id, ops, evs, tn, tm, op, ta, nm, n, at1⟩ : En) vo ve vi from L.d.keep k1)
 have LY := iH L; have HL := iH hl'
 obtain ⟨oa, oc, hvo⟩ := L.d.ro.shape
 obtain ⟨ea, ec, hve⟩ := L.d.re.shape
 obtain ⟨ia, ic1, hvi, _⟩ := _root_.id L.d.ri
 dsimp only at hvo hve hvi
 subst hvo hve hvi
 clear k1 b1 fb W hB L hl'
 have E0 := iH (Wtp.refl W1 [p] v)
 go_enter Try.func27, Try.ntmps27
 go_upto_region 1 with fail
 rw [<- hW1]
 clear hW1
 have ck : W1.cell? ⟨w.heap.size, 0, none⟩ = some (.int .u8 7) := CS.out _ _ E0.out 0
 have y10 : W1.cell? ⟨w.heap.size, 10, none⟩ = some (.string nm) := CS.out _ _ E0.out 10
 go_wp2_with fail
 refine (etext_any B p v _ nm W1 G1.out (Nat.le_trans SZ.out E0.out.1.size) LY.out.r.nm (by have h1 := LE.out; have h2 := HL.out; first | omega | (simp only [List.length_append]; omega) | (simp only [xqf, List.length_append, List.length_nil]; omega))).mono ?_
 rintro e w2 ⟨rfl, v2, g9, s9⟩
 have G2 := iH g9; have E2 := iH (E0.out.trans s9)
 clear g9 s9 y10
 have y11 : w2.cell? ⟨w.heap.size, 11, none⟩ = some (.int .i64 n) := CS.out _ _ E2.out 11
 go_wp2_with fail
 refine (nums_new [n] E2.out G2.out SZ.out rfl rfl (by intro x hx; simp only [List.mem_cons, List.not_mem_nil, or_false] at hx; rcases hx with rfl; exact LY.out.r.n) (by simp) (by have h1 := LE.out; have h2 := HL.out; first | omega | (simp only [List.length_append]; omega) | (simp only [xqf, List.length_append, List.length_nil]; omega))).mono ?_
 rintro e w3 ⟨rfl, v3, g9, s9⟩
 have G3 := iH g9; have E3 := iH s9
 clear g9 s9 y11
 have k8 := G3.out.drew
 have t8 := E3.out.drew
 have y2 : w3.drew.cell? ⟨w.heap.size, 12, none⟩ = some (.int .i64 at1) := CS.out _ _ t8 12
 go_wp2_with fail
 go_region_held3 (fun V => V.cell? ⟨w.heap.size, 12, none⟩ = some (.int .i64 at1)) (exact y2)
  (first
   | (go_at_call 52; refine (int_any B p v3 _ at1 _ k8 ?_ LY.out.r.at' ?_).mono ?_; (have := SZ.out; have := t8.1.size; omega); (have h1 := LE.out; have h2 := HL.out; first | omega | (simp only [List.length_append]; omega) | (simp only [xqf, List.length_append, List.length_nil]; omega)); rintro e w4 ⟨rfl, v4, g4, s4⟩; have t4 := t8.trans s4; have y2 : w4.cell? ⟨w.heap.size, 12, none⟩ = some (.int .i64 at1) := CS.out _ _ t4 12))
 have G4 := iH g4; have E4 := iH t4
 clear g4 s4 t4 y2 k8 t8
 go_wp2
 go_end0
 refine ⟨rfl, v4, ?_, S1.out.trans E4.out⟩
 have := G4.out
 simpa only [En.b7, xqf, List.append_nil, List.append_assoc] using this
theorem wp9 (B p : Nat) (v vo ve vi : Value) (k : Int) (hk : k = 9 ∨ k = 10) (tx nx id : Int) (ops : List Ox) (evs : List Px) (tn tm : Int) (op : List Int) (ta : Int) (nm : ByteArray) (n at1 : Int) (l : List UInt8) (w : World) (W : Wr wB w B p v l) (hB : B <= w.heap.size) (L : Lay w (⟨k, tx, nx, id, ops, evs, tn, tm, op, ta, nm, n, at1⟩ : En) vo ve vi p v) (hl' : l.length <= 1000000) :
  Calls Try.prog 27 #[.pointer (some ⟨p, 0, none⟩), .agg #[.int .u8 k, .int .i64 tx, .int .i64 nx, .int .i64 id, vo, ve, .int .i64 tn, .int .i64 tm, vi, .int .i64 ta, .string nm, .int .i64 n, .int .i64 at1]] w fun e w' => e = .returned (.tuple #[]) /\ ∃ v', Wr wB w' B p v' (l ++ (⟨k, tx, nx, id, ops, evs, tn, tm, op, ta, nm, n, at1⟩ : En).b9) /\ Wtp w w' [p] v v' := by
 obtain ⟨W1, hW1⟩ : ∃ W1, W1 = w.alloc (.cells #[.int .u8 k, .int .i64 tx, .int .i64 nx, .int .i64 id, vo, ve, .int .i64 tn, .int .i64 tm, vi, .int .i64 ta, .string nm, .int .i64 n, .int .i64 at1] 41) := ⟨_, rfl⟩
 have k1 : Kept w W1 [] := by rw [hW1]; exact (Kept.refl w []).alloc _
 have b1 : W1.heap[w.heap.size]? = some (.cells #[.int .u8 k, .int .i64 tx, .int .i64 nx, .int .i64 id, vo, ve, .int .i64 tn, .int .i64 tm, vi, .int .i64 ta, .string nm, .int .i64 n, .int .i64 at1] 41 (0, 0)) := by rw [hW1]; exact heap_alloc_new w _
 have fb : Far p v w.heap.size := W.far (Nat.le_refl _)
 have CS : RowKit.Hid (∀ V v', Wtp W1 V [p] v v' -> ∀ j, V.cell? ⟨w.heap.size, j, none⟩ = (#[.int .u8 k, .int .i64 tx, .int .i64 nx, .int .i64 id, vo, ve, .int .i64 tn, .int .i64 tm, vi, .int .i64 ta, .string nm, .int .i64 n, .int .i64 at1] : Array Value)[j]?) := iH (fun V v' s j => cell_of_row V _ j _ _ _ (s.heap fb b1))
 have S1 : RowKit.Hid (Wtp w W1 [p] v v) := iH ⟨k1.mono (by simp), .inl rfl⟩
 have G1 := iH (W.kept k1 (by simp) (by simp))
 have SZ : RowKit.Hid (B <= W1.heap.size) := iH (Nat.le_trans hB k1.size)
 have LE : RowKit.Hid ((xqb tx).length <= 10 /\ (xqb nx).length <= 10 /\ (xqb id).length <= 10 /\ (opsL ops).length <= 25600 /\ (evsL evs).length <= 76600 /\ (xqr nm.data.toList).length <= 50 /\ (xqb n).length <= 10) := iH L.lens
 have RD := iH (show RdN W1 (⟨k, tx, nx, id, ops, evs, tn, tm, op, ta, nm, n, at1⟩ : En) vo ve vi from L.d.keep k1)
 have LY := iH L; have HL := iH hl'
 obtain ⟨oa, oc, hvo⟩ := L.d.ro.shape
 obtain ⟨ea, ec, hve⟩ := L.d.re.shape
 obtain ⟨ia, ic1, hvi, _⟩ := _root_.id L.d.ri
 dsimp only at hvo hve hvi
 subst hvo hve hvi
 clear k1 b1 fb W hB L hl'
 have E0 := iH (Wtp.refl W1 [p] v)
 rcases hk with rfl | rfl
 all_goals
  go_enter Try.func27, Try.ntmps27
  go_upto_region 1 with fail
  rw [<- hW1]
  clear hW1
  have ck : W1.cell? ⟨w.heap.size, 0, none⟩ = some (.int .u8 _) := CS.out _ _ E0.out 0
  have y11 : W1.cell? ⟨w.heap.size, 11, none⟩ = some (.int .i64 n) := CS.out _ _ E0.out 11
  go_wp2_with fail
  refine (nums_new [n] E0.out G1.out SZ.out rfl rfl (by intro x hx; simp only [List.mem_cons, List.not_mem_nil, or_false] at hx; rcases hx with rfl; exact LY.out.r.n) (by simp) (by have h1 := LE.out; have h2 := HL.out; first | omega | (simp only [List.length_append]; omega) | (simp only [xqf, List.length_append, List.length_nil]; omega))).mono ?_
  rintro e w2 ⟨rfl, v2, g9, s9⟩
  have G2 := iH g9; have E2 := iH s9
  clear g9 s9 y11
  go_wp2
  go_end0
  refine ⟨rfl, v2, ?_, S1.out.trans E2.out⟩
  have := G2.out
  simpa only [En.b9, xqf, List.append_nil, List.append_assoc] using this
theorem wp11 (B p : Nat) (v vo ve vi : Value) (tx nx id : Int) (ops : List Ox) (evs : List Px) (tn tm : Int) (op : List Int) (ta : Int) (nm : ByteArray) (n at1 : Int) (l : List UInt8) (w : World) (W : Wr wB w B p v l) (hB : B <= w.heap.size) (L : Lay w (⟨11, tx, nx, id, ops, evs, tn, tm, op, ta, nm, n, at1⟩ : En) vo ve vi p v) (hl' : l.length <= 1000000) :
  Calls Try.prog 27 #[.pointer (some ⟨p, 0, none⟩), .agg #[.int .u8 11, .int .i64 tx, .int .i64 nx, .int .i64 id, vo, ve, .int .i64 tn, .int .i64 tm, vi, .int .i64 ta, .string nm, .int .i64 n, .int .i64 at1]] w fun e w' => e = .returned (.tuple #[]) /\ ∃ v', Wr wB w' B p v' (l ++ (⟨11, tx, nx, id, ops, evs, tn, tm, op, ta, nm, n, at1⟩ : En).b11) /\ Wtp w w' [p] v v' := by
 obtain ⟨W1, hW1⟩ : ∃ W1, W1 = w.alloc (.cells #[.int .u8 11, .int .i64 tx, .int .i64 nx, .int .i64 id, vo, ve, .int .i64 tn, .int .i64 tm, vi, .int .i64 ta, .string nm, .int .i64 n, .int .i64 at1] 41) := ⟨_, rfl⟩
 have k1 : Kept w W1 [] := by rw [hW1]; exact (Kept.refl w []).alloc _
 have b1 : W1.heap[w.heap.size]? = some (.cells #[.int .u8 11, .int .i64 tx, .int .i64 nx, .int .i64 id, vo, ve, .int .i64 tn, .int .i64 tm, vi, .int .i64 ta, .string nm, .int .i64 n, .int .i64 at1] 41 (0, 0)) := by rw [hW1]; exact heap_alloc_new w _
 have fb : Far p v w.heap.size := W.far (Nat.le_refl _)
 have CS : RowKit.Hid (∀ V v', Wtp W1 V [p] v v' -> ∀ j, V.cell? ⟨w.heap.size, j, none⟩ = (#[.int .u8 11, .int .i64 tx, .int .i64 nx, .int .i64 id, vo, ve, .int .i64 tn, .int .i64 tm, vi, .int .i64 ta, .string nm, .int .i64 n, .int .i64 at1] : Array Value)[j]?) := iH (fun V v' s j => cell_of_row V _ j _ _ _ (s.heap fb b1))
 have S1 : RowKit.Hid (Wtp w W1 [p] v v) := iH ⟨k1.mono (by simp), .inl rfl⟩
 have G1 := iH (W.kept k1 (by simp) (by simp))
 have SZ : RowKit.Hid (B <= W1.heap.size) := iH (Nat.le_trans hB k1.size)
 have LE : RowKit.Hid ((xqb tx).length <= 10 /\ (xqb nx).length <= 10 /\ (xqb id).length <= 10 /\ (opsL ops).length <= 25600 /\ (evsL evs).length <= 76600 /\ (xqr nm.data.toList).length <= 50 /\ (xqb n).length <= 10) := iH L.lens
 have RD := iH (show RdN W1 (⟨11, tx, nx, id, ops, evs, tn, tm, op, ta, nm, n, at1⟩ : En) vo ve vi from L.d.keep k1)
 have LY := iH L; have HL := iH hl'
 obtain ⟨oa, oc, hvo⟩ := L.d.ro.shape
 obtain ⟨ea, ec, hve⟩ := L.d.re.shape
 obtain ⟨ia, ic1, hvi, _⟩ := _root_.id L.d.ri
 dsimp only at hvo hve hvi
 subst hvo hve hvi
 clear k1 b1 fb W hB L hl'
 have E0 := iH (Wtp.refl W1 [p] v)
 go_enter Try.func27, Try.ntmps27
 go_upto_region 1 with fail
 rw [<- hW1]
 clear hW1
 have ck : W1.cell? ⟨w.heap.size, 0, none⟩ = some (.int .u8 11) := CS.out _ _ E0.out 0
 have y11 : W1.cell? ⟨w.heap.size, 11, none⟩ = some (.int .i64 n) := CS.out _ _ E0.out 11
 go_wp2_with fail
 refine (nums_new [n] E0.out G1.out SZ.out rfl rfl (by intro x hx; simp only [List.mem_cons, List.not_mem_nil, or_false] at hx; rcases hx with rfl; exact LY.out.r.n) (by simp) (by have h1 := LE.out; have h2 := HL.out; first | omega | (simp only [List.length_append]; omega) | (simp only [xqf, List.length_append, List.length_nil]; omega))).mono ?_
 rintro e w2 ⟨rfl, v2, g9, s9⟩
 have G2 := iH g9; have E2 := iH s9
 clear g9 s9 y11
 have y4 : w2.cell? ⟨w.heap.size, 4, none⟩ = some (.slice oa ops.length oc) := CS.out _ _ E2.out 4
 go_wp2_with fail
 refine (wops_any B p v2 _ _ ops w2 G2.out (Nat.le_trans SZ.out E2.out.1.size) (E2.out.rdK RD.out.ro (fun b hb => (LY.out.fo b hb).1)) (E2.out.farB S1.out.1.size LY.out.fo) LY.out.r.ops LY.out.r.nops (by have h1 := LE.out; have h2 := HL.out; first | omega | (simp only [List.length_append]; omega) | (simp only [xqf, List.length_append, List.length_nil]; omega))).mono ?_
 rintro e w3 ⟨rfl, v3, g9, s9⟩
 have G3 := iH g9; have E3 := iH (E2.out.trans s9)
 clear g9 s9 y4
 go_wp2
 go_end0
 refine ⟨rfl, v3, ?_, S1.out.trans E3.out⟩
 have := G3.out
 simpa only [En.b11, xqf, List.append_nil, List.append_assoc] using this
end Go.Proofs.Ytjdbmlifekghfaa
