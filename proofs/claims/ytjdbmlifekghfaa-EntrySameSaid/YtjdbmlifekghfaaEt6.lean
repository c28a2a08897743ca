/-
  Eh, Ei in one text.
-/
import Derived.Test.YtjdbmlifekghfaaEt0
import Derived.Test.YtjdbmlifekghfaaEt5
import Derived.Test.YtjdbmlifekghfaaEt1
import Derived.Laws.StructEq
set_option linter.unusedVariables false
set_option maxHeartbeats 16000000
set_option maxRecDepth 100000
namespace Go.Proofs.Ytjdbmlifekghfaa
open Go.RowKit
def Res (w V : World) (L : List UInt8) (en : Ending) (w' : World) : Prop :=
 ∃ v', en = .returned v' /\ Own w' w.heap.size 5 v' L /\ Kept w w' [] /\ (∀ v l, Rd V v l -> Rd w' v l)
theorem res_of {w V : World} {L : List UInt8} {en : Ending} {w' : World} (hk : Kept w V []) (h : ∃ v', en = .returned v' /\ Own w' V.heap.size 5 v' L /\ Kept V w' []) : Res w V L en w' := by
 obtain ⟨v', h1, h2, h3⟩ := h
 exact ⟨v', h1, h2.mono hk.size, hk.trans h3 (by simp), fun v l hr => hr.kept h3 (by simp)⟩
theorem res_num (w V : World) (x : Int) (hk : Kept w V []) (hx : 0 <= x /\ x <= 18446744073709551615) :
  Calls Try.prog 67 #[.int .u64 x] V fun en w' => Res w V (numL x.toNat) en w' := by
 obtain ⟨n, rfl⟩ := Int.eq_ofNat_of_zero_le hx.1
 exact (refnum_any n V (by omega)).mono fun _ _ h => res_of hk h
theorem res_int (w V : World) (x : Int) (hk : Kept w V []) (hx : -9223372036854775808 <= x /\ x <= 9223372036854775807) :
  Calls Try.prog 42 #[.int .i64 x] V fun en w' => Res w V (intL x) en w' :=
 (refint_any x V hx).mono fun _ _ h => res_of hk h
theorem xqW (w V : World) (x : ByteArray) (hk : Kept w V []) (hx : x.size <= 1099511627776) :
  Calls Try.prog 43 #[.string x] V fun en w' => Res w V (xqr x.data.toList) en w' :=
 (reftext_any x V hx).mono fun _ _ h => res_of hk h
theorem xqK (w V : World) (va vb : Value) (l m : List UInt8) (hk : Kept w V []) (ha : Rd V va l) (hb : Rd V vb m) (hl : l.length <= 1099511627776) (hm : m.length <= 1099511627776) :
  Calls Try.prog 22 #[va, vb] V fun en w' => Res w V (l ++ m) en w' :=
 (join_any va vb l m V ha hb hl hm).mono fun _ _ h => res_of hk h
theorem refencode_any (e : Ev) (h : e.Right) (o : e.Ok) (w : World) :
  Calls Try.prog 68 #[.agg e.cs] w fun en w' => ∃ v', en = .returned v' /\ Own w' w.heap.size 5 v' e.encL /\ Kept w w' [] := by
 obtain ⟨i0, hi, hz0, hz1, hz2⟩ := info_parts Try.infoB
 have P := iH (Ev.parts_len h o)
 have z1 : 0 <= e.id /\ e.id <= 18446744073709551615 := by have := h.id; have := o.id; omega
 have z2 : 0 <= e.tx /\ e.tx <= 18446744073709551615 := by have := h.tx; have := o.tx; omega
 have z3 : 0 <= e.tr /\ e.tr <= 18446744073709551615 := by have := h.tr; omega
 have z7 : e.ow.size <= 1099511627776 := by have := h.ow; omega
 have z8 : e.t.size <= 1099511627776 := by have := h.t; omega
 have HK := iH o.key
 have HTB := iH h.tb; have HKD := iH h.kd
 have v1 : IntKind.u64.wrap e.id = e.id := by rw [IntKind.wrap_u64]; omega
 have v2 : IntKind.u64.wrap e.tx = e.tx := by rw [IntKind.wrap_u64]; omega
 have v3 : e.tr % 18446744073709551616 = e.tr := by omega
 have v4 : e.tb % 256 = e.tb := by have := h.tb; omega
 have Z := iH (And.intro z1 (And.intro z2 (And.intro z3 (And.intro z7 z8))))
 clear z1 z2 z3 z7 z8 h o
 change Calls Try.prog 68 #[.agg #[.int .i64 e.id, .int .i64 e.tx, .string e.ow, .int .i64 e.tr, .int .i64 e.tb, .int .u8 e.kd, .int .i64 e.key, .string e.t]] w _
 obtain ⟨W1, hW1⟩ : ∃ W1, W1 = w.alloc (.cells #[.int .i64 e.id, .int .i64 e.tx, .string e.ow, .int .i64 e.tr, .int .i64 e.tb, .int .u8 e.kd, .int .i64 e.key, .string e.t] 69) := ⟨_, rfl⟩
 have K1 : Kept w W1 [] := by rw [hW1]; exact (Kept.refl w []).alloc _
 have B1 : W1.heap[w.heap.size]? = some (.cells e.cs 69 (0, 0)) := by rw [hW1]; exact heap_alloc_new w _
 have CS : RowKit.Hid (∀ V, Kept W1 V [] -> ∀ j, V.cell? ⟨w.heap.size, j, none⟩ = e.cs[j]?) := iH (fun V hk j => cell_of_row V _ j _ _ _ (hk.heap (by simp) B1))
 have K1 := iH K1
 have HN := iH (fun V x => res_num W1 V x)
 have HI := iH (fun V x => res_int W1 V x)
 have HT := iH (fun V x => xqW W1 V x)
 have HJ := iH (fun V va vb l m => xqK W1 V va vb l m)
 have k8 := (Kept.refl W1 []).drew
 have y2 : W1.drew.cell? ⟨w.heap.size, 0, none⟩ = some (.int .i64 e.id) /\ W1.drew.cell? ⟨w.heap.size, 1, none⟩ = some (.int .i64 e.tx) := ⟨CS.out _ k8 0, CS.out _ k8 1⟩
 go_enter Try.func68, Try.ntmps68
 go_wp2_with fail
 rw [<- hW1]
 clear hW1
 go_region_held3 (fun V => V.cell? ⟨w.heap.size, 0, none⟩ = some (.int .i64 e.id) /\ V.cell? ⟨w.heap.size, 1, none⟩ = some (.int .i64 e.tx)) (exact y2)
  (first
   | (go_at_call 67; refine (HN.out _ _ k8 ?_).mono ?_; (first | exact Z.out.1 | exact Z.out.2.1); rintro en w8 ⟨v8, rfl, r8, k8, t8⟩; (first | (have rB := t8 _ _ rA; have rA := r8.rd) | have rA := r8.rd); have y2 : w8.cell? ⟨w.heap.size, 0, none⟩ = some (.int .i64 e.id) /\ w8.cell? ⟨w.heap.size, 1, none⟩ = some (.int .i64 e.tx) := ⟨CS.out _ k8 0, CS.out _ k8 1⟩)
   | (go_at_call 22; refine (HJ.out _ _ _ _ _ k8 (by first | exact rA | exact rB) (by first | exact rA | exact rB) ?_ ?_).mono ?_; (have := P.out; omega); (have := P.out; omega); rintro en w9 ⟨v9, rfl, r9, k8, t9⟩; have y2 : w9.cell? ⟨w.heap.size, 0, none⟩ = some (.int .i64 e.id) /\ w9.cell? ⟨w.heap.size, 1, none⟩ = some (.int .i64 e.tx) := ⟨CS.out _ k8 0, CS.out _ k8 1⟩))
 have R9 := iH r9.rd; have K9 := iH k8
 clear r9 k8 y2 t9
 have y : w9.cell? ⟨w.heap.size, 2, none⟩ = some (.string e.ow) := CS.out _ K9.out 2
 go_wp2_with fail
 refine (HT.out _ _ K9.out Z.out.2.2.2.1).mono ?_
 rintro en w10 ⟨v10, rfl, r10, k10, t10⟩
 have R10 := iH r10.rd; have K10 := iH k10; have Q10 := iH (t10 _ _ R9.out)
 clear r10 k10 t10 y
 go_wp2_with fail
 refine (HJ.out _ _ _ _ _ K10.out Q10.out R10.out (by have := P.out; simp only [List.length_append]; omega) (by have := P.out; omega)).mono ?_
 rintro en w11 ⟨v11, rfl, r11, k11, t11⟩
 have R11 := iH r11.rd; have K11 := iH k11
 clear r11 k11 t11
 have y : w11.cell? ⟨w.heap.size, 3, none⟩ = some (.int .i64 e.tr) := CS.out _ K11.out 3
 go_wp2_with fail
 refine (HN.out _ _ K11.out Z.out.2.2.1).mono ?_
 rintro en w12 ⟨v12, rfl, r12, k12, t12⟩
 have R12 := iH r12.rd; have K12 := iH k12; have Q12 := iH (t12 _ _ R11.out)
 clear r12 k12 t12 y
 go_wp2_with fail
 refine (HJ.out _ _ _ _ _ K12.out Q12.out R12.out (by have := P.out; simp only [List.length_append]; omega) (by have := P.out; omega)).mono ?_
 rintro en w13 ⟨v13, rfl, r13, k13, t13⟩
 obtain ⟨L, hL⟩ : ∃ L, L = numL e.id.toNat ++ numL e.tx.toNat ++ xqr e.ow.data.toList ++ numL e.tr.toNat := ⟨_, rfl⟩
 rw [<- hL] at r13
 have hLl : L.length <= 80 := by have := P.out; rw [hL]; simp only [List.length_append]; omega
 obtain ⟨a13, n13, c13, hv13⟩ := r13.shape3
 have R13 := iH r13; have K13 := iH k13; have HL := iH hL
 clear r13 k13 t13 hL
 subst hv13
 have y4 : w13.cell? ⟨w.heap.size, 4, none⟩ = some (.int .i64 e.tb) := CS.out _ K13.out 4
 have y5 : w13.cell? ⟨w.heap.size, 5, none⟩ = some (.int .u8 e.kd) := CS.out _ K13.out 5
 have hbc : bc (numL e.tb.toNat ++ numL e.kd.toNat) = [.int .u8 e.tb, .int .u8 e.kd] := by
  have h1 := HTB.out; have h2 := HKD.out
  rw [xqF (by omega), xqF (by omega), xqU, bc_nat (by omega), bc_nat (by omega)]
  simp only [List.cons_append, List.nil_append]
  rw [show ((e.tb.toNat : Nat) : Int) = e.tb from by omega, show ((e.kd.toNat : Nat) : Int) = e.kd from by omega]
 have hb2 : (numL e.tb.toNat ++ numL e.kd.toNat).length = 2 := by rw [<- bc_length, hbc]; rfl
 have HBC := iH hbc; have HB2 := iH hb2
 clear hbc hb2
 have hs13 := K13.out.size
 go_wp2_with (at_builtin; refine xql _ rfl (.tmp 24) (.tmp 30) 22 22 rfl W1.heap.size 5 i0 (.int .u8 0) 1 1 Try.underlying22 hi hz0 hz1 hz2 rfl _ L.length (bc L) rfl ?hown _ 2 (bc (numL e.tb.toNat ++ numL e.kd.toNat)) rfl ?src ?b1 ?b2 ?base ?next)
 case hown => exact World.ownsRow.alloc (R13.out.mono (by have := K12.out.size; omega)) _
 case src => rw [<- HB2.out]; exact (xq1 w13 _ _ _ _ rfl (by rw [HBC.out])).src Try.underlying22
 case b1 => unfold maxLen; omega
 case b2 => omega
 case base => simp; omega
 case next =>
  intro v14 w14 hown hgrow _ _
  have ho : Own w14 W1.heap.size 5 v14 (L ++ (numL e.tb.toNat ++ numL e.kd.toNat)) := by unfold Own; rw [xqU, List.length_append, HB2.out]; exact hown
  have hk : Kept W1 w14 [] := (K13.out.alloc _).grown hgrow (fun k hk => .inr (by have := R13.out.lt k hk; have := K12.out.size; omega))
  have q0 := ho.rd
  have k8 := hk
  obtain ⟨L2, hL2⟩ : ∃ L2, L2 = L ++ (numL e.tb.toNat ++ numL e.kd.toNat) := ⟨_, rfl⟩
  rw [<- hL2] at q0
  have hL2l : L2.length <= 82 := by rw [hL2, List.length_append, HB2.out]; omega
  have HL2 := iH hL2
  clear ho hk hown hgrow hL2 y4 y5
  replace k8 := k8.drew
  replace q0 := q0.kept (Kept.refl w14 []).drew (by simp)
  have y2 : w14.drew.cell? ⟨w.heap.size, 6, none⟩ = some (.int .i64 e.key) /\ w14.drew.cell? ⟨w.heap.size, 7, none⟩ = some (.string e.t) := ⟨CS.out _ k8 6, CS.out _ k8 7⟩
  go_wp2_with fail
  go_region_held3 (fun V => V.cell? ⟨w.heap.size, 6, none⟩ = some (.int .i64 e.key) /\ V.cell? ⟨w.heap.size, 7, none⟩ = some (.string e.t)) (exact y2)
   (first
    | (go_at_call 42; refine (HI.out _ _ k8 HK.out).mono ?_; rintro en w15 ⟨v15, rfl, r15, k8, t8⟩; (try have q0 := t8 _ _ q0); have qI := r15.rd; (try have qT := t8 _ _ qT);  have y2 : w15.cell? ⟨w.heap.size, 6, none⟩ = some (.int .i64 e.key) /\ w15.cell? ⟨w.heap.size, 7, none⟩ = some (.string e.t) := ⟨CS.out _ k8 6, CS.out _ k8 7⟩)
    | (go_at_call 43; refine (HT.out _ _ k8 Z.out.2.2.2.2).mono ?_; rintro en w16 ⟨v16, rfl, r16, k8, t8⟩; (try have q0 := t8 _ _ q0); have qT := r16.rd; (try have qI := t8 _ _ qI); (try have qJ := t8 _ _ qJ);  have y2 : w16.cell? ⟨w.heap.size, 6, none⟩ = some (.int .i64 e.key) /\ w16.cell? ⟨w.heap.size, 7, none⟩ = some (.string e.t) := ⟨CS.out _ k8 6, CS.out _ k8 7⟩)
    | (go_at_call 22; refine (HJ.out _ _ _ _ _ k8 (by first | exact q0 | exact qJ) (by first | exact qI | exact qT) ?_ ?_).mono ?_; (have := P.out; (try simp only [List.length_append]); omega); (have := P.out; omega); rintro en w17 ⟨v17, rfl, r17, k8, t8⟩; have qJ := r17.rd; (try have qT := t8 _ _ qT);  have y2 : w17.cell? ⟨w.heap.size, 6, none⟩ = some (.int .i64 e.key) /\ w17.cell? ⟨w.heap.size, 7, none⟩ = some (.string e.t) := ⟨CS.out _ k8 6, CS.out _ k8 7⟩))
  have R17 := iH r17; have K17 := iH k8
  clear r17 k8 y2 q0 qI qT qJ t8
  go_wp2
  go_ret
  refine ⟨v17, rfl, ?_, K1.out.trans K17.out (by simp)⟩
  have := R17.out.mono (base' := w.heap.size) K1.out.size
  rw [HL2.out, HL.out] at this
  simpa only [Ev.encL, Ev.r2, Ev.r3, Ev.r4, Ev.r5, Ev.r6, Ev.r7, Ev.r8, List.append_assoc] using this
def e9 : Ev := ⟨1, 2, ⟨#[]⟩, 0, 0, 1, 3, ⟨#[120]⟩⟩
end Go.Proofs.Ytjdbmlifekghfaa
