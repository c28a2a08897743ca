/-
  Eoc, Eog in one text.
-/
import Derived.Test.YtjdbmlifekghfaaEt0
import Derived.Test.YtjdbmlifekghfaaEt10
import Derived.Test.YtjdbmlifekghfaaEt2
set_option linter.unusedVariables false
set_option maxHeartbeats 16000000
set_option maxRecDepth 100000
namespace Go.Proofs.Ytjdbmlifekghfaa
open Go.RowKit
theorem conv_rd (w : World) (v : Value) (l : List UInt8) (h : Rd w v l) : (convert 22 9 v).run Try.prog w = .ok (.string (strL l)) w := by
 obtain ⟨a, c, rfl, hc, ha, hl⟩ := h
 by_cases hne : l = []
 ·subst hne
  exact conv_empty w a c
 obtain ⟨b, o, rfl, hcell⟩ := hl hne
 have := conv_take w b o c l.length l (Nat.le_refl _) hcell
 rwa [List.take_length] at this
theorem strL_data (l : List UInt8) : (strL l).data.toList = l := rfl
theorem wev_any (B p hl hw : Nat) (v sv : Value) (l : List UInt8) (xs : List Px) (k : Nat) (x : Px) (w : World) (W : Wr wB w B p v l) (hB : B <= w.heap.size) (C : Cap w p v hl hw 39 #[sv]) (hs : RdK encP w sv xs) (hx : xs[k]? = some x) (hb : ∀ b, sv.ownBlock = some b -> Far p v b) (ho : x.Right) (hl' : l.length <= 100000000) :
  Calls Try.prog 76 #[.int .i64 k, .pointer (some ⟨hw, 0, none⟩), .pointer (some ⟨hl, 0, none⟩)] w fun e w' => e = .returned (.tuple #[]) /\ ∃ v', Wr wB w' B p v' (l ++ x.encL) /\ Wtp w w' [p] v v' := by
 obtain ⟨sa, sc, rfl, _⟩ := id hs
 obtain ⟨sb, so, rfl, _⟩ := hs.at hx
 obtain ⟨sp, e⟩ := x
 obtain ⟨e0, e1, e2, e3, e4, e5, e6, e7⟩ := e
 obtain ⟨E, hE⟩ : ∃ E : Ev, E = ⟨e0, e1, e2, e3, e4, e5, e6, e7⟩ := ⟨_, rfl⟩
 have hP : 0 <= sp /\ sp <= 255 := ho.sp
 have hEr : E.Right := by rw [hE]; exact ho.ev
 have hEo : E.Ok := by rw [hE]; exact ho.ok
 have hcs : E.cs = #[.int .i64 e0, .int .i64 e1, .string e2, .int .i64 e3, .int .i64 e4, .int .u8 e5, .int .i64 e6, .string e7] := by rw [hE]; rfl
 have HR : RowKit.Hid (∀ V : World, Calls Try.prog 77 #[.agg #[.int .i64 e0, .int .i64 e1, .string e2, .int .i64 e3, .int .i64 e4, .int .u8 e5, .int .i64 e6, .string e7]] V fun en w' => en = .returned (.bool true) /\ Kept V w' []) := iH (fun V => by
  have := right_any E V
  rw [hcs, (Ev.rightB_iff E).2 hEr] at this
  exact this)
 have HE : RowKit.Hid (∀ V : World, Calls Try.prog 79 #[.agg #[.int .i64 e0, .int .i64 e1, .string e2, .int .i64 e3, .int .i64 e4, .int .u8 e5, .int .i64 e6, .string e7]] V fun en w' => ∃ v', en = .returned v' /\ Rd w' v' E.encL /\ Kept V w' []) := iH (fun V => by
  have := encode_any E hEr hEo V
  rw [hcs] at this
  exact this.mono (fun _ _ h => by obtain ⟨v', h1, h2, h3⟩ := h; exact ⟨v', h1, h2.rd, h3⟩))
 have HEl : RowKit.Hid (E.encL.length <= 200) := iH (Ev.encL_len hEr hEo)
 have HX : RowKit.Hid ((⟨sp, ⟨e0, e1, e2, e3, e4, e5, e6, e7⟩⟩ : Px).encL = numL sp.toNat ++ xqr E.encL) := iH (by rw [hE]; rfl)
 have xl : (k : Int) < (xs.length : Int) := by have := (List.getElem?_eq_some_iff.1 hx).1; omega
 have CS : RowKit.Hid (∀ V v', Wtp w V [p] v v' -> V.cell? ⟨hw, 0, none⟩ = some (.pointer (some ⟨p, 0, none⟩)) /\ V.cell? ⟨hl, 0, none⟩ = some (.slice (some ⟨sb, so, none⟩) xs.length sc) /\ ∀ j, j < 9 -> V.cell? ⟨sb, so + k * 9 + j, none⟩ = (#[.int .i64 sp, .int .i64 e0, .int .i64 e1, .string e2, .int .i64 e3, .int .i64 e4, .int .u8 e5, .int .i64 e6, .string e7] : Array Value)[j]?) := iH (fun V v' s => ⟨cell_of_row V hw 0 _ _ _ (s.heap C.fw C.bw), cell_of_row V hl 0 _ _ _ (s.heap C.fl C.bl), fun j hj => (s.rdK hs hb).here hx j hj⟩)
 have FS : RowKit.Hid (∀ V, Kept w V [] -> Far p v V.heap.size) := iH (fun V hk => by have h1 := W.size; have h2 := hk.size; exact ⟨by omega, fun e => by have := (W.2.lt _ e).2; omega⟩)
 have HW := iH W; have HP := iH hP; have HL := iH hl'; have HB := iH hB
 clear hs hx hb ho hl' C W hB hP hEr hEo hcs hE
 go_enter Try.func76, Try.ntmps76
 have k8 := HW.out.drew
 have t8 : Wtp w w.drew [p] v v := (Wtp.refl _ _ _).drew
 have y2 : w.drew.cell? ⟨hw, 0, none⟩ = some (.pointer (some ⟨p, 0, none⟩)) /\ w.drew.cell? ⟨hl, 0, none⟩ = some (.slice (some ⟨sb, so, none⟩) xs.length sc) /\ w.drew.cell? ⟨sb, so + k * 9, none⟩ = some (.int .i64 sp) := ⟨(CS.out _ _ t8).1, (CS.out _ _ t8).2.1, (CS.out _ _ t8).2.2 0 (by decide)⟩
 have y3 : ∀ ob, (w.drew.alloc ob).cell? ⟨hw, 0, none⟩ = some (.pointer (some ⟨p, 0, none⟩)) /\ (w.drew.alloc ob).cell? ⟨hl, 0, none⟩ = some (.slice (some ⟨sb, so, none⟩) xs.length sc) /\ (w.drew.alloc ob).cell? ⟨sb, so + k * 9, none⟩ = some (.int .i64 sp) := fun ob => ⟨(CS.out _ _ (t8.alloc ob)).1, (CS.out _ _ (t8.alloc ob)).2.1, (CS.out _ _ (t8.alloc ob)).2.2 0 (by decide)⟩
 go_wp2_with fail
 go_region_held3 (fun V => V.cell? ⟨hw, 0, none⟩ = some (.pointer (some ⟨p, 0, none⟩)) /\ V.cell? ⟨hl, 0, none⟩ = some (.slice (some ⟨sb, so, none⟩) xs.length sc) /\ V.cell? ⟨sb, so + k * 9, none⟩ = some (.int .i64 sp)) (first | exact y2 | exact y3 _)
  (first
   | (go_at_call 49; refine (nums_any B p v l _ [sp] _ (k8.alloc _) ?_ (rdI_new (heap_alloc_new _ _) rfl rfl (by simp)) ?_ (by simp) ?_ ?_).mono ?_; (have := HB.out; simp; omega); (have := HP.out; intro x hx; simp only [List.mem_singleton] at hx; subst hx; exact ⟨by omega, by omega⟩); (intro b hb; simp only [Value.ownBlock, Option.some.injEq] at hb; subst hb; exact FS.out _ (Kept.refl _ _).drew); (have := HL.out; omega); rintro e w9 ⟨rfl, v9, g9, s9⟩; have t9 := (t8.alloc _).trans s9; have y2 : w9.cell? ⟨hw, 0, none⟩ = some (.pointer (some ⟨p, 0, none⟩)) /\ w9.cell? ⟨hl, 0, none⟩ = some (.slice (some ⟨sb, so, none⟩) xs.length sc) /\ w9.cell? ⟨sb, so + k * 9, none⟩ = some (.int .i64 sp) := ⟨(CS.out _ _ t9).1, (CS.out _ _ t9).2.1, (CS.out _ _ t9).2.2 0 (by decide)⟩))
 have L9 : RowKit.Hid ((l ++ xqf xqb [sp]).length <= 100000010) := iH (by
  have h1 := xqc (n := sp.toNat) (by have := HP.out; omega)
  have h3 := HL.out
  simp only [xqf, xqb, List.length_append, List.length_nil]; omega)
 have E9 : RowKit.Hid (xqf xqb [sp] = numL sp.toNat) := iH (by simp [xqf, xqb])
 have G9 := iH g9; have T9 := iH t9
 clear g9 t9 s9 y2 y3 k8 t8
 have k8 := G9.out.drew
 have t8 := T9.out.drew
 have y2 : w9.drew.cell? ⟨hw, 0, none⟩ = some (.pointer (some ⟨p, 0, none⟩)) /\ w9.drew.cell? ⟨hl, 0, none⟩ = some (.slice (some ⟨sb, so, none⟩) xs.length sc) /\ w9.drew.cell? ⟨sb, so + k * 9 + 1, none⟩ = some (.int .i64 e0) /\ w9.drew.cell? ⟨sb, so + k * 9 + 2, none⟩ = some (.int .i64 e1) /\ w9.drew.cell? ⟨sb, so + k * 9 + 3, none⟩ = some (.string e2) /\ w9.drew.cell? ⟨sb, so + k * 9 + 4, none⟩ = some (.int .i64 e3) /\ w9.drew.cell? ⟨sb, so + k * 9 + 5, none⟩ = some (.int .i64 e4) /\ w9.drew.cell? ⟨sb, so + k * 9 + 6, none⟩ = some (.int .u8 e5) /\ w9.drew.cell? ⟨sb, so + k * 9 + 7, none⟩ = some (.int .i64 e6) /\ w9.drew.cell? ⟨sb, so + k * 9 + 8, none⟩ = some (.string e7) := ⟨(CS.out _ _ t8).1, (CS.out _ _ t8).2.1, (CS.out _ _ t8).2.2 1 (by decide), (CS.out _ _ t8).2.2 2 (by decide), (CS.out _ _ t8).2.2 3 (by decide), (CS.out _ _ t8).2.2 4 (by decide), (CS.out _ _ t8).2.2 5 (by decide), (CS.out _ _ t8).2.2 6 (by decide), (CS.out _ _ t8).2.2 7 (by decide), (CS.out _ _ t8).2.2 8 (by decide)⟩
 go_wp2_with fail
 go_region_held3 (fun V => V.cell? ⟨hw, 0, none⟩ = some (.pointer (some ⟨p, 0, none⟩)) /\ V.cell? ⟨hl, 0, none⟩ = some (.slice (some ⟨sb, so, none⟩) xs.length sc) /\ V.cell? ⟨sb, so + k * 9 + 1, none⟩ = some (.int .i64 e0) /\ V.cell? ⟨sb, so + k * 9 + 2, none⟩ = some (.int .i64 e1) /\ V.cell? ⟨sb, so + k * 9 + 3, none⟩ = some (.string e2) /\ V.cell? ⟨sb, so + k * 9 + 4, none⟩ = some (.int .i64 e3) /\ V.cell? ⟨sb, so + k * 9 + 5, none⟩ = some (.int .i64 e4) /\ V.cell? ⟨sb, so + k * 9 + 6, none⟩ = some (.int .u8 e5) /\ V.cell? ⟨sb, so + k * 9 + 7, none⟩ = some (.int .i64 e6) /\ V.cell? ⟨sb, so + k * 9 + 8, none⟩ = some (.string e7)) (exact y2)
  (first
   | (go_at_call 77; refine (HR.out _).mono ?_; rintro e w10 ⟨rfl, k10⟩; have k8 := k8.kept k10 (by simp) (by simp); have t8 : Wtp w w10 [p] v v9 := ⟨t8.1.trans k10 (by simp), t8.2⟩; have y2 : w10.cell? ⟨hw, 0, none⟩ = some (.pointer (some ⟨p, 0, none⟩)) /\ w10.cell? ⟨hl, 0, none⟩ = some (.slice (some ⟨sb, so, none⟩) xs.length sc) /\ w10.cell? ⟨sb, so + k * 9 + 1, none⟩ = some (.int .i64 e0) /\ w10.cell? ⟨sb, so + k * 9 + 2, none⟩ = some (.int .i64 e1) /\ w10.cell? ⟨sb, so + k * 9 + 3, none⟩ = some (.string e2) /\ w10.cell? ⟨sb, so + k * 9 + 4, none⟩ = some (.int .i64 e3) /\ w10.cell? ⟨sb, so + k * 9 + 5, none⟩ = some (.int .i64 e4) /\ w10.cell? ⟨sb, so + k * 9 + 6, none⟩ = some (.int .u8 e5) /\ w10.cell? ⟨sb, so + k * 9 + 7, none⟩ = some (.int .i64 e6) /\ w10.cell? ⟨sb, so + k * 9 + 8, none⟩ = some (.string e7) := ⟨(CS.out _ _ t8).1, (CS.out _ _ t8).2.1, (CS.out _ _ t8).2.2 1 (by decide), (CS.out _ _ t8).2.2 2 (by decide), (CS.out _ _ t8).2.2 3 (by decide), (CS.out _ _ t8).2.2 4 (by decide), (CS.out _ _ t8).2.2 5 (by decide), (CS.out _ _ t8).2.2 6 (by decide), (CS.out _ _ t8).2.2 7 (by decide), (CS.out _ _ t8).2.2 8 (by decide)⟩)
   | (go_at_call 71; refine (must_any B p v9 _ _ k8).mono ?_; rintro e w11 ⟨rfl, g11, s11⟩; have t11 := t8.trans s11; have y2 : w11.cell? ⟨hw, 0, none⟩ = some (.pointer (some ⟨p, 0, none⟩)) /\ w11.cell? ⟨hl, 0, none⟩ = some (.slice (some ⟨sb, so, none⟩) xs.length sc) /\ w11.cell? ⟨sb, so + k * 9 + 1, none⟩ = some (.int .i64 e0) /\ w11.cell? ⟨sb, so + k * 9 + 2, none⟩ = some (.int .i64 e1) /\ w11.cell? ⟨sb, so + k * 9 + 3, none⟩ = some (.string e2) /\ w11.cell? ⟨sb, so + k * 9 + 4, none⟩ = some (.int .i64 e3) /\ w11.cell? ⟨sb, so + k * 9 + 5, none⟩ = some (.int .i64 e4) /\ w11.cell? ⟨sb, so + k * 9 + 6, none⟩ = some (.int .u8 e5) /\ w11.cell? ⟨sb, so + k * 9 + 7, none⟩ = some (.int .i64 e6) /\ w11.cell? ⟨sb, so + k * 9 + 8, none⟩ = some (.string e7) := ⟨(CS.out _ _ t11).1, (CS.out _ _ t11).2.1, (CS.out _ _ t11).2.2 1 (by decide), (CS.out _ _ t11).2.2 2 (by decide), (CS.out _ _ t11).2.2 3 (by decide), (CS.out _ _ t11).2.2 4 (by decide), (CS.out _ _ t11).2.2 5 (by decide), (CS.out _ _ t11).2.2 6 (by decide), (CS.out _ _ t11).2.2 7 (by decide), (CS.out _ _ t11).2.2 8 (by decide)⟩))
 have G11 := iH g11; have T11 := iH t11
 clear g11 t11 s11 y2 k8 t8
 have k8 := G11.out.drew
 have t8 := T11.out.drew
 go_wp2_with fail
 refine wp_region_held_drew (S := fun Z => ∃ v', Wtp w Z [p] v v') (by kernel_rfl) ⟨_, t8⟩ (fun hJ => ?_)
 refine wx 0 20 (.pointer (some ⟨p, 0, none⟩)) rfl hJ ?_ (hy := fun V hV => by (obtain ⟨uV, hV⟩ := hV; obtain ⟨z0, z1, z2⟩ := CS.out _ _ hV; clear hV z2; go_simp))
 refine wx 1 21 (.pointer (some ⟨p, 0, none⟩)) rfl hJ ?_
 refine wx 2 22 (.pointer (some ⟨p, 0, none⟩)) rfl hJ ?_
 refine wx 3 23 (.slice (some ⟨sb, so, none⟩) xs.length sc) rfl hJ ?_ (hy := fun V hV => by (obtain ⟨uV, hV⟩ := hV; obtain ⟨z0, z1, z2⟩ := CS.out _ _ hV; clear hV z2; go_simp))
 refine wx 4 24 (.int .i64 k) rfl hJ ?_
 refine wx 5 25 (.pointer (some ⟨sb, so + k * 9, none⟩)) rfl hJ ?_
 refine wx 6 26 (.pointer (some ⟨sb, so + k * 9 + 1, none⟩)) rfl hJ ?_
 refine wx 7 27 (.agg #[.int .i64 e0, .int .i64 e1, .string e2, .int .i64 e3, .int .i64 e4, .int .u8 e5, .int .i64 e6, .string e7]) rfl hJ ?_ (hy := fun V hV => by (obtain ⟨uV, hV⟩ := hV; obtain ⟨z0, z1, z2⟩ := CS.out _ _ hV; have y1 := z2 1 (by decide); have y2 := z2 2 (by decide); have y3 := z2 3 (by decide); have y4 := z2 4 (by decide); have y5 := z2 5 (by decide); have y6 := z2 6 (by decide); have y7 := z2 7 (by decide); have y8 := z2 8 (by decide); clear hV z2; simp only [List.getElem?_toArray, List.getElem?_cons_zero, List.getElem?_cons_succ] at y1 y2 y3 y4 y5 y6 y7 y8; go_simp))
 refine wr1 8 rfl (fun K hK => ?_)
 go_simp
 go_at_call 79
 refine (HE.out _).mono ?_
 rintro e w12 ⟨v12, rfl, r12, k12⟩
 obtain ⟨a12, n12, c12, hv12⟩ := r12.shape3
 subst hv12
 have cv := conv_rd w12 _ _ r12
 have k8 := k8.kept k12 (by simp) (by simp)
 have t8 : Wtp w w12 [p] v v9 := ⟨t8.1.trans k12 (by simp), t8.2⟩
 go_wp2_with fail
 refine hK.out _ _ ⟨_, t8⟩ (fun hJ => ?_)
 clear hK K
 refine wr1 9 rfl (fun K hK => ?_)
 go_wp2_with fail
 refine hK.out _ _ ⟨_, t8⟩ (fun hJ => ?_)
 clear hK K
 refine wr1 10 rfl (fun K hK => ?_)
 go_simp
 go_at_call 78
 refine (text_any B p v9 _ (strL E.encL) _ k8 ?_ ?_ ?_).mono ?_
 ·have := HB.out; have := t8.1.size; omega
 ·have := HEl.out; rw [strL_size]; omega
 ·have := L9.out; omega
 rintro e w13 ⟨rfl, v13, g13, s13⟩
 have t13 := t8.trans s13
 refine hK.out _ _ ⟨_, t13⟩ (fun hJ => ?_)
 clear hK K
 refine wd ?_
 have G13 := iH g13; have T13 := iH t13
 clear g13 t13 s13 k8 t8
 go_wp2
 go_end0
 refine ⟨rfl, v13, ?_, T13.out⟩
 have := G13.out
 rw [E9.out, strL_data] at this
 rw [HX.out, <- List.append_assoc]
 exact this
theorem wopen_any (B p hl hw : Nat) (v sv tn tm ta : Value) (l : List UInt8) (xs : List Int) (k : Nat) (w : World) (W : Wr wB w B p v l) (hB : B <= w.heap.size) (C : Cap w p v hl hw 33 #[tn, tm, sv, ta]) (hs : RdI w sv xs) (hx : k < xs.length) (hb : ∀ b, sv.ownBlock = some b -> Far p v b) (ho : ∀ x ∈ xs, whole x) (hl' : l.length <= 100000000) :
  Calls Try.prog 80 #[.int .i64 k, .pointer (some ⟨hw, 0, none⟩), .pointer (some ⟨hl, 0, none⟩)] w fun e w' => e = .returned (.tuple #[]) /\ ∃ v', Wr wB w' B p v' (l ++ xqb xs[k]) /\ Wtp w w' [p] v v' := by
 obtain ⟨sa, sc, rfl, _, _, _, hcell⟩ := id hs
 obtain ⟨sb, so, rfl, _⟩ := hcell (by rintro rfl; simp at hx)
 obtain ⟨n, hn⟩ : ∃ n, n = xs[k] := ⟨_, rfl⟩
 have hP : whole n := by rw [hn]; exact ho _ (List.getElem_mem hx)
 have hg : xs.getD k 0 = n := by rw [List.getD, List.getElem?_eq_getElem hx]; exact hn.symm
 have xl : (k : Int) < (xs.length : Int) := by omega
 rw [<- hn]
 have CS : RowKit.Hid (∀ V v', Wtp w V [p] v v' -> V.cell? ⟨hw, 0, none⟩ = some (.pointer (some ⟨p, 0, none⟩)) /\ V.cell? ⟨hl, 2, none⟩ = some (.slice (some ⟨sb, so, none⟩) xs.length sc) /\ V.cell? ⟨sb, so + k, none⟩ = some (.int .i64 n)) := iH (fun V v' s => by
  refine ⟨cell_of_row V hw 0 _ _ _ (s.heap C.fw C.bw), cell_of_row V hl 2 _ _ _ (s.heap C.fl C.bl), ?_⟩
  obtain ⟨a', c', e1, _, _, _, hla⟩ := s.rdI hs hb
  simp only [Value.slice.injEq] at e1
  obtain ⟨b', o', e2, hc⟩ := hla (by rintro rfl; simp at hx)
  rw [<- e1.1] at e2
  simp only [Option.some.injEq, Addr.mk.injEq] at e2
  obtain ⟨rfl, rfl, _⟩ := e2
  rw [hc k hx, hg])
 have FS : RowKit.Hid (∀ V, Kept w V [] -> Far p v V.heap.size) := iH (fun V hk => by have h1 := W.size; have h2 := hk.size; exact ⟨by omega, fun e => by have := (W.2.lt _ e).2; omega⟩)
 have HW := iH W; have HP := iH hP; have HL := iH hl'; have HB := iH hB
 clear hs hx hb ho hl' C W hB hP hn hg hcell
 go_enter Try.func80, Try.ntmps80
 have k8 := HW.out.drew
 have t8 : Wtp w w.drew [p] v v := (Wtp.refl _ _ _).drew
 have y2 : w.drew.cell? ⟨hw, 0, none⟩ = some (.pointer (some ⟨p, 0, none⟩)) /\ w.drew.cell? ⟨hl, 2, none⟩ = some (.slice (some ⟨sb, so, none⟩) xs.length sc) /\ w.drew.cell? ⟨sb, so + k, none⟩ = some (.int .i64 n) := ⟨(CS.out _ _ t8).1, (CS.out _ _ t8).2.1, (CS.out _ _ t8).2.2⟩
 have y3 : ∀ ob, (w.drew.alloc ob).cell? ⟨hw, 0, none⟩ = some (.pointer (some ⟨p, 0, none⟩)) /\ (w.drew.alloc ob).cell? ⟨hl, 2, none⟩ = some (.slice (some ⟨sb, so, none⟩) xs.length sc) /\ (w.drew.alloc ob).cell? ⟨sb, so + k, none⟩ = some (.int .i64 n) := fun ob => ⟨(CS.out _ _ (t8.alloc ob)).1, (CS.out _ _ (t8.alloc ob)).2.1, (CS.out _ _ (t8.alloc ob)).2.2⟩
 go_wp2_with fail
 go_region_held3 (fun V => V.cell? ⟨hw, 0, none⟩ = some (.pointer (some ⟨p, 0, none⟩)) /\ V.cell? ⟨hl, 2, none⟩ = some (.slice (some ⟨sb, so, none⟩) xs.length sc) /\ V.cell? ⟨sb, so + k, none⟩ = some (.int .i64 n)) (first | exact y2 | exact y3 _)
  (first
   | (go_at_call 49; refine (nums_any B p v l _ [n] _ (k8.alloc _) ?_ (rdI_new (heap_alloc_new _ _) rfl rfl (by simp)) ?_ (by simp) ?_ ?_).mono ?_; (have := HB.out; simp; omega); (intro x hx; simp only [List.mem_singleton] at hx; subst hx; exact HP.out); (intro b hb; simp only [Value.ownBlock, Option.some.injEq] at hb; subst hb; exact FS.out _ (Kept.refl _ _).drew); (have := HL.out; omega); rintro e w9 ⟨rfl, v9, g9, s9⟩; have t9 := (t8.alloc _).trans s9; have y2 : w9.cell? ⟨hw, 0, none⟩ = some (.pointer (some ⟨p, 0, none⟩)) /\ w9.cell? ⟨hl, 2, none⟩ = some (.slice (some ⟨sb, so, none⟩) xs.length sc) /\ w9.cell? ⟨sb, so + k, none⟩ = some (.int .i64 n) := ⟨(CS.out _ _ t9).1, (CS.out _ _ t9).2.1, (CS.out _ _ t9).2.2⟩))
 have G9 := iH g9; have T9 := iH t9
 clear g9 t9 s9 y2 y3 k8 t8
 go_wp2
 go_end0
 refine ⟨rfl, v9, ?_, T9.out⟩
 have := G9.out
 simpa [xqf] using this
def fst1 (x e : Int) : Int := if x = 0 then e else x
def Zr (w : World) (q r c : Nat) (x e : Int) (l : List UInt8) : Prop :=
 ∃ v, w.heap[q]? = some (.cells #[.pointer (some ⟨r, 0, none⟩), .int .i64 x] 90 (0, 0)) /\ Rr w r v e l /\ (∀ b, v.ownBlock = some b -> b = c) /\ q ≠ r /\ c ≠ q /\ l.length <= 1099511627796
theorem Zr.kept {w w' : World} {q r c : Nat} {x e : Int} {l : List UInt8} {bs : List Nat} (h : Zr w q r c x e l) (hk : Kept w w' bs) (hq : q ∉ bs) (hr : r ∉ bs) (hc : c ∉ bs) : Zr w' q r c x e l := by
 obtain ⟨v, h1, h2, h3, h4, h5, h6⟩ := h
 exact ⟨v, hk.heap hq h1, h2.kept hk hr (fun b hb => by rw [h3 b hb]; exact hc), h3, h4, h5, h6⟩
theorem Zr.cells {w : World} {q r c : Nat} {x e : Int} {l : List UInt8} (h : Zr w q r c x e l) :
  w.cell? ⟨q, 0, none⟩ = some (.pointer (some ⟨r, 0, none⟩)) /\ w.cell? ⟨q, 1, none⟩ = some (.int .i64 x) /\ w.frozen? ⟨q, 1, none⟩ = false := by
 obtain ⟨v, h1, _⟩ := h
 exact ⟨by simpa using cell_of_row w q 0 _ _ _ h1, by simpa using cell_of_row w q 1 _ _ _ h1, frozen_of_row w q 1 _ _ h1⟩
theorem Zr.lt {w : World} {q r c : Nat} {x e : Int} {l : List UInt8} (h : Zr w q r c x e l) : q < w.heap.size /\ r < w.heap.size := by
 obtain ⟨v, h1, h2, _⟩ := h
 exact ⟨(Array.getElem?_eq_some_iff.1 h1).1, (Array.getElem?_eq_some_iff.1 h2.1).1⟩
theorem Zr.mark {w : World} {q r c : Nat} {x e : Int} {l : List UInt8} (h : Zr w q r c x e l) (m : Int) : Zr (w.setCell ⟨q, 1, none⟩ (.int .i64 m)) q r c m e l := by
 obtain ⟨v, h1, h2, h3, h4, h5, h6⟩ := h
 exact ⟨v, by simpa using xqa h1 1 (.int .i64 m), h2.kept ((Kept.refl w [q]).setCell (.inl (by simp)) _) (by simpa using h4.symm) (fun b hb => by rw [h3 b hb]; simpa using h5), h3, h4, h5, h6⟩
theorem Zr.read {w w' : World} {q r c : Nat} {x e' : Int} {l l' : List UInt8} {v v' : Value} (h1 : w.heap[q]? = some (.cells #[.pointer (some ⟨r, 0, none⟩), .int .i64 x] 90 (0, 0))) (h3 : ∀ b, v.ownBlock = some b -> b = c) (h4 : q ≠ r) (h5 : c ≠ q) (h6 : l.length <= 1099511627796)
  (g : Rr w' r v' e' l') (k : Kept w w' [r]) (b : ∀ b, v'.ownBlock = some b -> v.ownBlock = some b) (hl : l'.length <= l.length) : Zr w' q r c x e' l' :=
 ⟨v', k.heap (by simpa using h4) h1, g, fun y hy => h3 y (b y hy), h4, h5, Nat.le_trans hl h6⟩
theorem efirst_any (q r c : Nat) (x e : Int) (l : List UInt8) (w : World) (h : Zr w q r c x e l) :
  Calls Try.prog 64 #[.pointer (some ⟨q, 0, none⟩)] w fun en w' => en = .returned (.int .i64 (fst1 x e)) /\ w' = w := by
 obtain ⟨c0, c1, _⟩ := h.cells
 obtain ⟨v, _, hr, _⟩ := h
 have HR := iH hr
 clear hr
 by_cases hx : x = 0
 ·subst hx
  have E : RowKit.Hid (fst1 0 e = e) := iH (if_pos rfl)
  go_enter Try.func64, Try.ntmps64
  go_wp2_with fail
  refine (xqC r v e l w HR.out).mono ?_
  rintro en w1 ⟨rfl, hw⟩
  have hw2 := hw.symm; clear hw; subst hw2
  go_wp2
  go_ret
  rw [E.out]
  exact ⟨rfl, rfl⟩
 ·have x0 : (x != 0) = true := by simpa using hx
  have E : RowKit.Hid (fst1 x e = x) := iH (if_neg hx)
  clear hx
  go_enter Try.func64, Try.ntmps64
  go_wp2
  go_ret
  rw [E.out]
  exact ⟨rfl, rfl⟩
theorem meet_any (q r c : Nat) (x e m : Int) (l : List UInt8) (w : World) (h : Zr w q r c x e l) :
  Calls Try.prog 62 #[.pointer (some ⟨q, 0, none⟩), .int .i64 m] w fun en w' => en = .returned (.tuple #[]) /\ Zr w' q r c (if fst1 x e = 0 then m else x) e l /\ Kept w w' [q] := by
 have H := iH h
 obtain ⟨_, c1, f1⟩ := h.cells
 clear h
 obtain ⟨f, hf⟩ : ∃ f, f = fst1 x e := ⟨_, rfl⟩
 have CF : RowKit.Hid (Calls Try.prog 64 #[.pointer (some ⟨q, 0, none⟩)] w fun en w' => en = .returned (.int .i64 f) /\ w' = w) := iH (by rw [hf]; exact efirst_any q r c x e l w H.out)
 rw [<- hf]
 clear hf
 by_cases h0 : f = 0
 ·subst h0
  go_enter Try.func62, Try.ntmps62
  go_wp2_with fail
  refine CF.out.mono ?_
  rintro en w1 ⟨rfl, hw⟩
  subst hw
  go_wp2
  go_end0
  exact ⟨rfl, H.out.mark m, (Kept.refl _ [q]).setCell (.inl (by simp)) _⟩
 ·have x0 : (f == 0) = false := by simpa using h0
  rw [if_neg h0]
  go_enter Try.func62, Try.ntmps62
  go_wp2_with fail
  refine CF.out.mono ?_
  rintro en w1 ⟨rfl, hw⟩
  subst hw
  go_wp2
  go_end0
  exact ⟨rfl, H.out, Kept.refl _ _⟩
theorem upTo_any (q r c m : Nat) (x e : Int) (l : List UInt8) (w : World) (h : Zr w q r c x e l) (hm : m <= 9223372036854775807) :
  Calls Try.prog 81 #[.pointer (some ⟨q, 0, none⟩), .int .i64 m] w fun en w' => en = .returned (.int .i64 (wrap64 (rNum e l).1)) /\ Zr w' q r c (if m < (rNum e l).1 /\ fst1 x (rNum e l).2.2 = 0 then 2 else x) (rNum e l).2.2 (rNum e l).2.1 /\ Kept w w' [q, r] := by
 obtain ⟨c0, _, _⟩ := h.cells
 obtain ⟨v, h1, h2, h3, h4, h5, h6⟩ := h
 have hnb := rNum_lt e l
 obtain ⟨n, hn⟩ : ∃ n, n = (rNum e l).1 := ⟨_, rfl⟩
 obtain ⟨l1, hl1⟩ : ∃ l1, l1 = (rNum e l).2.1 := ⟨_, rfl⟩
 obtain ⟨e1, he1⟩ : ∃ e1, e1 = (rNum e l).2.2 := ⟨_, rfl⟩
 have CN : RowKit.Hid (Calls Try.prog 86 #[.pointer (some ⟨r, 0, none⟩)] w fun en w' => en = .returned (.int .u64 n) /\ ∃ v', Rr w' r v' e1 l1 /\ Kept w w' [r] /\ (∀ b, v'.ownBlock = some b -> v.ownBlock = some b)) := iH (by rw [hn, hl1, he1]; exact rnum_any r v e l w h2 h6)
 have ZN : RowKit.Hid (∀ w' v', Rr w' r v' e1 l1 -> Kept w w' [r] -> (∀ b, v'.ownBlock = some b -> v.ownBlock = some b) -> Zr w' q r c x e1 l1) := iH (fun w' v' g k b => Zr.read h1 h3 h4 h5 h6 g k b (by rw [hl1]; exact xqt e l))
 rw [<- hn] at hnb
 rw [<- hn, <- hl1, <- he1]
 clear hn hl1 he1 h1 h2 h3 h4 h5 h6
 have v3 : IntKind.u64.wrap (m : Int) = m := by rw [IntKind.wrap_u64]; omega
 obtain ⟨X, hX⟩ : ∃ X, X = if m < n /\ fst1 x e1 = 0 then (2 : Int) else x := ⟨_, rfl⟩
 rw [<- hX]
 by_cases hlt : m < n
 ·have x1 : (m : Int) < (n : Int) := by omega
  have E : RowKit.Hid (X = if fst1 x e1 = 0 then 2 else x) := iH (by rw [hX]; simp only [hlt, true_and])
  clear hX
  go_enter Try.func81, Try.ntmps81
  go_wp2_with fail
  refine CN.out.mono ?_
  rintro en w1 ⟨rfl, v1, g1, k1, b1⟩
  have Z1 := iH (ZN.out w1 v1 g1 k1 b1); have K1 := iH (k1.mono (cs := [q, r]) (by simp))
  clear g1 k1 b1 c0
  go_wp2_with fail
  refine (meet_any q r c x e1 2 l1 w1 Z1.out).mono ?_
  rintro en w2 ⟨rfl, g2, k2⟩
  have Z2 := iH g2; have K2 := iH (K1.out.trans (k2.mono (cs := [q, r]) (by simp)) (fun x hx => .inl hx))
  clear g2 k2
  go_wp2
  go_ret
  rw [E.out]
  exact ⟨rfl, Z2.out, K2.out⟩
 ·have x1 : ¬ (m : Int) < (n : Int) := by omega
  have E : RowKit.Hid (X = x) := iH (by rw [hX]; exact if_neg (fun h => hlt h.1))
  clear hX
  go_enter Try.func81, Try.ntmps81
  go_wp2_with fail
  refine CN.out.mono ?_
  rintro en w1 ⟨rfl, v1, g1, k1, b1⟩
  have Z1 := iH (ZN.out w1 v1 g1 k1 b1); have K1 := iH (k1.mono (cs := [q, r]) (by simp))
  clear g1 k1 b1 c0
  go_wp2
  go_ret
  rw [E.out, xqZ (by omega)]
  exact ⟨rfl, Z1.out, K1.out⟩
def Sm (x e0 : Int) (l0 : List UInt8) (e : Int) (l : List UInt8) : Prop := fst1 x e0 = e /\ (e = 0 -> l0 = l)
def Zs (w : World) (q r c : Nat) (e : Int) (l : List UInt8) : Prop := ∃ x e0 l0, Zr w q r c x e0 l0 /\ Sm x e0 l0 e l
theorem xq7 {x e : Int} (h : fst1 x e = 0) : x = 0 /\ e = 0 := by
 unfold fst1 at h
 split at h
 ·exact ⟨by assumption, h⟩
 exact absurd h (by assumption)
theorem yqc {e : Int} (h : e ≠ 0) (l : List UInt8) : rNum e l = (0, l, e) := by rw [rNum, if_neg h]
theorem rfN_bad {e : Int} (h : e ≠ 0) (lo hi : Nat) (l : List UInt8) : rfN lo hi e l = (0, l, e) := by
 unfold rfN
 rw [yqc h, if_neg]
 simp [badN, h]
theorem fst1_step {x e0 : Int} {l0 : List UInt8} (h : fst1 x e0 ≠ 0) : fst1 x (rNum e0 l0).2.2 = fst1 x e0 := by
 unfold fst1 at h ⊢
 split
 ·rename_i hx
  rw [if_pos hx] at h
  rw [yqc h]
 rfl
theorem sm_up {x e0 : Int} {l0 : List UInt8} {e : Int} {l : List UInt8} (s : Sm x e0 l0 e l) (m : Nat) (hm : m <= 9223372036854775807) :
  Sm (if m < (rNum e0 l0).1 /\ fst1 x (rNum e0 l0).2.2 = 0 then 2 else x) (rNum e0 l0).2.2 (rNum e0 l0).2.1 (rfN 0 m e l).2.2 (rfN 0 m e l).2.1 /\ ((rfN 0 m e l).2.2 = 0 -> wrap64 (rNum e0 l0).1 = ((rfN 0 m e l).1 : Nat)) := by
 by_cases he : e = 0
 ·subst he
  obtain ⟨rfl, rfl⟩ := xq7 s.1
  obtain rfl := s.2 rfl
  unfold rfN
  by_cases hb : badN 0 m (rNum 0 l0).2.2 (rNum 0 l0).1 = true
  ·rw [if_pos hb]
   simp only [badN, Bool.and_eq_true, Bool.or_eq_true, decide_eq_true_eq] at hb
   have h2 : m < (rNum 0 l0).1 := by omega
   have h1 : fst1 0 (rNum 0 l0).2.2 = 0 := by rw [hb.1]; rfl
   rw [if_pos ⟨h2, h1⟩]
   exact ⟨⟨rfl, fun h => absurd h (by decide)⟩, fun h => absurd h (by decide)⟩
  rw [if_neg hb]
  have hn : ¬ (m < (rNum 0 l0).1 /\ fst1 0 (rNum 0 l0).2.2 = 0) := by
   rintro ⟨h2, h1⟩
   apply hb
   have := (xq7 h1).2
   simp [badN, this, h2]
  rw [if_neg hn]
  refine ⟨⟨if_pos rfl, fun _ => rfl⟩, fun h => ?_⟩
  have : (rNum 0 l0).1 <= m := by
   rcases Nat.lt_or_ge m (rNum 0 l0).1 with h2 | h2
   ·exact absurd ⟨h2, by rw [h]; rfl⟩ hn
   exact h2
  exact xqZ (by omega)
 ·have h1 : fst1 x e0 ≠ 0 := by rw [s.1]; exact he
  have h2 := fst1_step (l0 := l0) h1
  rw [rfN_bad he, if_neg (fun h => h1 (h2 ▸ h.2))]
  exact ⟨⟨h2.trans s.1, fun h => absurd h he⟩, fun h => absurd h he⟩
theorem zup_any (q r c m : Nat) (e : Int) (l : List UInt8) (w : World) (h : Zs w q r c e l) (hm : m <= 9223372036854775807) :
  Calls Try.prog 81 #[.pointer (some ⟨q, 0, none⟩), .int .i64 m] w fun en w' => ∃ a : Int, en = .returned (.int .i64 a) /\ Zs w' q r c (rfN 0 m e l).2.2 (rfN 0 m e l).2.1 /\ Kept w w' [q, r] /\ ((rfN 0 m e l).2.2 = 0 -> a = ((rfN 0 m e l).1 : Nat)) := by
 obtain ⟨x, e0, l0, z, s⟩ := h
 refine (upTo_any q r c m x e0 l0 w z hm).mono ?_
 rintro en w' ⟨rfl, z', k⟩
 obtain ⟨s1, s2⟩ := sm_up s m hm
 exact ⟨_, rfl, ⟨_, _, _, z', s1⟩, k, s2⟩
theorem xqH (q r c : Nat) (e : Int) (l : List UInt8) (w : World) (h : Zs w q r c e l) :
  Calls Try.prog 56 #[.pointer (some ⟨q, 0, none⟩)] w fun en w' => ∃ a : Int, en = .returned (.int .i64 a) /\ Zs w' q r c (wA e l).2.2 (wA e l).2.1 /\ Kept w w' [q, r] /\ ((wA e l).2.2 = 0 -> a = ((wA e l).1 : Nat)) := by
 have HU := iH (zup_any q r c 9223372036854775807 e l w h (by omega))
 clear h
 go_enter Try.func56, Try.ntmps56
 go_wp2_with fail
 refine HU.out.mono ?_
 rintro en w1 ⟨a, rfl, z1, k1, ha⟩
 have Z := iH z1; have K := iH k1; have HA := iH ha
 clear z1 k1 ha
 go_wp2
 go_ret
 exact ⟨a, rfl, Z.out, K.out, HA.out⟩
theorem Zs.cell {w : World} {q r c : Nat} {e : Int} {l : List UInt8} (h : Zs w q r c e l) : w.cell? ⟨q, 0, none⟩ = some (.pointer (some ⟨r, 0, none⟩)) := by
 obtain ⟨x, e0, l0, z, _⟩ := h
 exact z.cells.1
theorem Zs.kept {w w' : World} {q r c : Nat} {e : Int} {l : List UInt8} {bs : List Nat} (h : Zs w q r c e l) (hk : Kept w w' bs) (hq : q ∉ bs) (hr : r ∉ bs) (hc : c ∉ bs) : Zs w' q r c e l := by
 obtain ⟨x, e0, l0, z, s⟩ := h
 exact ⟨x, e0, l0, z.kept hk hq hr hc, s⟩
theorem Zs.lt {w : World} {q r c : Nat} {e : Int} {l : List UInt8} (h : Zs w q r c e l) : q < w.heap.size /\ r < w.heap.size := by
 obtain ⟨x, e0, l0, z, s⟩ := h
 exact z.lt
theorem zint_any (q r c : Nat) (e : Int) (l : List UInt8) (w : World) (h : Zs w q r c e l) :
  Calls Try.prog 59 #[.pointer (some ⟨r, 0, none⟩)] w fun en w' => ∃ a : Int, en = .returned (.int .i64 a) /\ Zs w' q r c (rfI e l).2.2 (rfI e l).2.1 /\ Kept w w' [q, r] /\ ((rfI e l).2.2 = 0 -> a = (rfI e l).1) := by
 obtain ⟨x, e0, l0, ⟨v, h1, h2, h3, h4, h5, h6⟩, s⟩ := h
 refine (rint_any r v e0 l0 w h2 h6).mono ?_
 rintro en w' ⟨rfl, v', g, k, b⟩
 have z := Zr.read h1 h3 h4 h5 h6 g k b (xqt e0 l0)
 by_cases he : e = 0
 ·subst he
  obtain ⟨rfl, rfl⟩ := xq7 s.1
  obtain rfl := s.2 rfl
  exact ⟨_, rfl, ⟨_, _, _, z, if_pos rfl, fun _ => rfl⟩, k.mono (by simp), fun _ => rfl⟩
 ·have hs : fst1 x e0 ≠ 0 := by rw [s.1]; exact he
  refine ⟨_, rfl, ⟨_, _, _, z, ?_, fun h => ?_⟩, k.mono (by simp), fun h => ?_⟩
  ·rw [fst1_step hs, s.1, rfI, yqc he]
  ·rw [rfI, yqc he] at h; exact absurd h he
  rw [rfI, yqc he] at h; exact absurd h he
theorem xq5 {e : Int} (h : e ≠ 0) (m : Int) (l : List UInt8) : xqg m e l = ([], l, e) := by rw [xqg, yqc h, xqG, if_neg h]
theorem fst1_text {x e0 m : Int} {l0 : List UInt8} (h : fst1 x e0 ≠ 0) : fst1 x (xqg m e0 l0).2.2 = fst1 x e0 := by
 unfold fst1 at h ⊢
 split
 ·rename_i hx
  rw [if_pos hx] at h
  rw [xq5 h]
 rfl
theorem ztext_any (q r c : Nat) (m e : Int) (l : List UInt8) (w : World) (h : Zs w q r c e l) (hm : -9223372036854775808 <= m /\ m <= 9223372036854775807) :
  Calls Try.prog 61 #[.pointer (some ⟨r, 0, none⟩), .int .i64 m] w fun en w' => ∃ a : ByteArray, en = .returned (.string a) /\ Zs w' q r c (xqg m e l).2.2 (xqg m e l).2.1 /\ Kept w w' [q, r] /\ ((xqg m e l).2.2 = 0 -> a = strL (xqg m e l).1) /\ a.size <= 1099511627796 := by
 obtain ⟨x, e0, l0, ⟨v, h1, h2, h3, h4, h5, h6⟩, s⟩ := h
 refine (rtext_any r v m e0 l0 w h2 h6 hm).mono ?_
 rintro en w' ⟨rfl, v', g, k, b⟩
 have z := Zr.read h1 h3 h4 h5 h6 g k b (xqE m e0 l0)
 have hsz : (strL (xqg m e0 l0).1).size <= 1099511627796 := by
  have h7 : (xqg m e0 l0).1.length <= l0.length := by
   have := xqt e0 l0
   unfold xqg xqG
   split
   ·split
    ·simp
    split
    ·simp
    simp only [List.length_take]; omega
   simp
  rw [strL_size]; omega
 by_cases he : e = 0
 ·subst he
  obtain ⟨rfl, rfl⟩ := xq7 s.1
  obtain rfl := s.2 rfl
  exact ⟨_, rfl, ⟨_, _, _, z, if_pos rfl, fun _ => rfl⟩, k.mono (by simp), fun _ => rfl, hsz⟩
 ·have hs : fst1 x e0 ≠ 0 := by rw [s.1]; exact he
  refine ⟨_, rfl, ⟨_, _, _, z, ?_, fun h => ?_⟩, k.mono (by simp), fun h => ?_, hsz⟩
  ·rw [fst1_text hs, s.1, xq5 he]
  ·rw [xq5 he] at h; exact absurd h he
  rw [xq5 he] at h; exact absurd h he
theorem zmeet_any (q r c : Nat) (e m : Int) (l l' : List UInt8) (w : World) (h : Zs w q r c e l) (hl : e = 0 -> m = 0 -> l' = l) :
  Calls Try.prog 62 #[.pointer (some ⟨q, 0, none⟩), .int .i64 m] w fun en w' => en = .returned (.tuple #[]) /\ Zs w' q r c (if e = 0 then m else e) l' /\ Kept w w' [q] := by
 obtain ⟨x, e0, l0, z, s⟩ := h
 refine (meet_any q r c x e0 m l0 w z).mono ?_
 rintro en w' ⟨rfl, z', k⟩
 refine ⟨rfl, ⟨_, _, _, z', ?_⟩, k⟩
 by_cases he : e = 0
 ·subst he
  obtain ⟨rfl, rfl⟩ := xq7 s.1
  obtain rfl := s.2 rfl
  rw [if_pos rfl, if_pos s.1]
  by_cases hm : m = 0
  ·subst hm; exact ⟨rfl, fun _ => (hl rfl rfl).symm⟩
  exact ⟨if_neg hm, fun h => absurd h hm⟩
 ·have hs : fst1 x e0 ≠ 0 := by rw [s.1]; exact he
  rw [if_neg he, if_neg hs]
  exact ⟨s.1, fun h => absurd h he⟩
end Go.Proofs.Ytjdbmlifekghfaa
