/-
 Proved: whatever the arguments are, carrierlaw16.EntryMany answers true and leaves its arguments as they were. No condition.
-/
import Derived.Test.YtjdbmlifekghfaaEt0
import Derived.Test.YtjdbmlifekghfaaEt35
import Derived.Test.YtjdbmlifekghfaaEt1
import Derived.ProofKit
import Derived.OpenShut
import Derived.ChangeOld
import Derived.Below
set_option linter.unusedVariables false
set_option maxHeartbeats 16000000
set_option maxRecDepth 100000
namespace Go.Proofs.Ytjdbmlifekghfaa.entryMany
open Go.ChangeShapes Go.WideShapes Go.ChangeAt Go.RowKit
theorem own : ownKnob Try.prog.godebug = none := by kernel_rfl
theorem laidOut : laidOutB Try.prog = true := by kernel_rfl
def mOps (b : Bool) (n : Nat) : List Ox := (List.range n).map (fun (j : Nat) => (⟨0, b, (j : Int), ⟨#[]⟩⟩ : Ox))
theorem mOps_len (b : Bool) (n : Nat) : (mOps b n).length = n := by simp [mOps]
theorem mOps_snoc (b : Bool) (n : Nat) : mOps b (n + 1) = mOps b n ++ [(⟨0, b, (n : Int), ⟨#[]⟩⟩ : Ox)] := by simp [mOps, List.range_succ]
theorem mOps_right (b : Bool) {n : Nat} (h : n <= 1000) : ∀ o ∈ mOps b n, o.Right := by
 intro o ho
 obtain ⟨i, hi, rfl⟩ := List.mem_map.1 ho
 have := List.mem_range.1 hi
 exact ⟨⟨(by decide : (0 : Int) <= 0), by dsimp only; omega⟩, ⟨by dsimp only; omega, by dsimp only; omega⟩, (by decide : (⟨#[]⟩ : ByteArray).size <= 40)⟩
theorem mEn_right (b : Bool) {n : Nat} (h : n <= 255) : (⟨11, 0, 0, 0, mOps b n, [], 0, 0, [], 0, ⟨#[]⟩, 3, 0⟩ : En).Right := by
 have h0 : whole 0 := ⟨by decide, by decide⟩
 have hk : (1 : Int) <= 11 /\ (11 : Int) <= 11 := by decide
 have hz : (-9223372036854775808 : Int) <= 0 /\ (0 : Int) <= 9223372036854775807 := by decide
 have h3 : whole 3 := ⟨by decide, by decide⟩
 have he : (⟨#[]⟩ : ByteArray).size <= 40 := by decide
 exact ⟨hk, h0, h0, h0, mOps_right b (n := n) (by omega), by dsimp only; rw [mOps_len]; exact h, (fun x h => by cases h), Nat.zero_le _, h0, h0, (fun n h => by cases h), Nat.zero_le _, hz, he, h3, hz⟩
theorem walk (a0 : Int) (a1 : Bool) (w0 : (Lit.int .u16 a0).wf = true) (W : World) :
  Calls Try.prog 6 #[.int .u16 a0, .bool a1] W fun e w' => e = .returned (.bool true) /\ Below W.heap.size W w' := by
 obtain ⟨q0, hq0⟩ := Int.eq_ofNat_of_zero_le (bounds_u16 w0).1
 have hb0 := (bounds_u16 w0).2
 subst hq0
 clear w0
 obtain ⟨m, hm⟩ : ∃ m, m = q0 % 260 := ⟨_, rfl⟩
 have hm2 : m < 260 := by omega
 have hmt : (q0 : Int).tmod 260 = m := by rw [Int.tmod_eq_emod_of_nonneg (by omega)]; omega
 have hmt2 : (q0 : Int) % 260 = m := by omega
 have hw2 : IntKind.u16.wrap (m : Int) = (m : Int) := by simp [IntKind.wrap, IntKind.bits, IntKind.signed] ; omega
 have HM2 := iH hm2
 clear hm hm2 hb0
 obtain ⟨i0, hi0, hz0, hz1, hz2⟩ := info_parts Try.infoRo
 go_enter Try.func6, Try.ntmps6
 go_wp2_with fail
 refine (nine_any W).mono ?_
 rintro e w1 ⟨rfl, k1⟩
 have K1 := iH k1; clear k1
 obtain ⟨q, hq⟩ : ∃ q, q = w1.heap.size := ⟨_, rfl⟩
 obtain ⟨W1, hW1⟩ : ∃ W1, W1 = w1.alloc (.cells #[.int .u8 11, .int .i64 0, .int .i64 0, .int .i64 0, .slice none 0 0, .slice none 0 0, .int .i64 0, .int .i64 0, .slice none 0 0, .int .i64 0, .string ⟨#[]⟩, .int .i64 3, .int .i64 0] 35) := ⟨_, rfl⟩
 have b1 : W1.heap[q]? = some (.cells #[.int .u8 11, .int .i64 0, .int .i64 0, .int .i64 0, .slice none 0 0, .slice none 0 0, .int .i64 0, .int .i64 0, .slice none 0 0, .int .i64 0, .string ⟨#[]⟩, .int .i64 3, .int .i64 0] 35 (0, 0)) := by rw [hW1, hq]; exact heap_alloc_new w1 _
 have k2 : Kept W W1 [] := by rw [hW1]; exact K1.out.alloc _
 have z1 : W1.heap.size = q + 1 := by rw [hW1, hq]; simp
 have hqW : W.heap.size <= q := by rw [hq]; exact K1.out.size
 have B1 := iH b1; have K2 := iH k2; have HZ1 := iH z1; have HQ := iH hq; have HQW := iH hqW
 clear b1 k2 z1 hq hqW
 go_upto_region 4 with fail
 rw [<- hW1, <- HQ.out]
 clear hW1
 go_wp2
 go_loopw [6] (fun s6 wr => ∃ (i : Nat) (ua : Option Addr) (uc : Nat), s6 = .int .i64 i /\ i <= m /\ wr.heap[q]? = some (.cells #[.int .u8 11, .int .i64 0, .int .i64 0, .int .i64 0, .slice ua i uc, .slice none 0 0, .int .i64 0, .int .i64 0, .slice none 0 0, .int .i64 0, .string ⟨#[]⟩, .int .i64 3, .int .i64 0] 35 (0, 0)) /\ OwnK encO wr (q + 1) 63 (.slice ua i uc) (mOps a1 i) /\ Kept W1 wr [q]) (fun s6 _ => m - (intOf s6).toNat)
 case atStart => exact ⟨0, none, 0, rfl, Nat.zero_le _, B1.out, OwnK.nil _ _ _, Kept.refl _ _⟩
 case round =>
  obtain ⟨i, ua, uc, rfl, hi, hbx, how, hkw⟩ := hrel
  have BX := iH hbx; have OW := iH how; have KW := iH hkw
  have SZ : RowKit.Hid (q + 1 <= wr.heap.size) := iH (by have := HZ1.out; have := hkw.size; omega)
  clear hbx how hkw
  by_cases hlt : i < m
  ·have x1 : (i : Int) < (m : Int) := by omega
   have HLT := iH hlt
   have d4 := cell_of_row wr q 4 _ _ _ BX.out
   simp at d4
   have SRC := xqI (E := encO) (P := Try.prog) (t := 63) wr (⟨0, a1, i, ⟨#[]⟩⟩ : Ox) (tx := 28) Try.underlying28
   simp only [encO, Ox.cs] at SRC
   have SRC := iH SRC
   have OO := iH (OW.out.keep ((Kept.refl wr []).alloc (.cells #[.int .i64 0, .bool a1, .int .i64 i, .string ⟨#[]⟩] 63)))
   have HS : RowKit.Hid (q + 1 <= (wr.alloc (.cells #[.int .i64 0, .bool a1, .int .i64 i, .string ⟨#[]⟩] 63)).heap.size) := iH (by have := SZ.out; simp; omega)
   have KWA : RowKit.Hid (Kept W1 (wr.alloc (.cells #[.int .i64 0, .bool a1, .int .i64 i, .string ⟨#[]⟩] 63)) [q]) := iH (KW.out.alloc _)
   have BXA : RowKit.Hid ((wr.alloc (.cells #[.int .i64 0, .bool a1, .int .i64 i, .string ⟨#[]⟩] 63)).heap[q]? = some (.cells #[.int .u8 11, .int .i64 0, .int .i64 0, .int .i64 0, .slice ua i uc, .slice none 0 0, .int .i64 0, .int .i64 0, .slice none 0 0, .int .i64 0, .string ⟨#[]⟩, .int .i64 3, .int .i64 0] 35 (0, 0))) := iH (((Kept.refl wr []).alloc _).heap (by simp) BX.out)
   have hml := mOps_len a1 i
   go_wp2_with (first | (at_builtin; refine xqp _ rfl (.tmp 21) (.tmp 27) 28 28 rfl (q + 1) 63 i0 _ 4 40 Try.underlying28 hi0 hz0 hz1 hz2 rfl (.slice ua i uc) (mOps a1 i).length (kcs encO (mOps a1 i)) rfl OO.out (.slice (some ⟨wr.heap.size, 0, none⟩) 1 1) 1 _ rfl SRC.out (by have := HM2.out; have := HLT.out; rw [mOps_len]; unfold maxLen; omega) (by have := HM2.out; have := HLT.out; rw [mOps_len]; omega) HS.out ?nexta) | fail)
   case nexta =>
   intro v9 w9 hown _ hgrow _
   have o9 : OwnK encO w9 (q + 1) 63 v9 (mOps a1 (i + 1)) := by
    rw [mOps_snoc]
    unfold OwnK
    rw [xqv, xqu, List.length_append]
    first | exact hown | (rw [mOps_len]; exact hown)
   have kb : Kept W1 w9 [q] := KWA.out.grown hgrow (fun b hb => .inr (by have := (OO.out.lt b hb).1; have := HZ1.out; omega))
   have bx9 : w9.heap[q]? = some (.cells #[.int .u8 11, .int .i64 0, .int .i64 0, .int .i64 0, .slice ua i uc, .slice none 0 0, .int .i64 0, .int .i64 0, .slice none 0 0, .int .i64 0, .string ⟨#[]⟩, .int .i64 3, .int .i64 0] 35 (0, 0)) := by
    have h1 := BXA.out
    rw [hgrow.block _ (Array.getElem?_eq_some_iff.1 h1).1 (fun hm => by have := (OO.out.lt _ hm.symm).1; omega)]
    exact h1
   have d9 := cell_of_row w9 q 4 _ _ _ bx9; have f9 := frozen_of_row w9 q 4 _ _ bx9
   simp at d9
   obtain ⟨u9, c9, e9⟩ := o9.shape
   rw [mOps_len] at e9
   subst e9
   have bs := xqa bx9 4 (.slice u9 (i + 1 : Nat) c9)
   simp only [List.setIfInBounds_toArray, List.set_cons_zero, List.set_cons_succ] at bs
   have ks : Kept w9 (w9.setCell ⟨q, 4, none⟩ (.slice u9 (i + 1 : Nat) c9)) [q] := (Kept.refl w9 _).setCell (.inl (by simp)) _
   have o10 := o9.kept ks (fun b hb => by have := (o9.lt b hb).1; simp; omega)
   have BS := iH bs; have O10 := iH o10; have KE := iH (kb.trans ks (fun x hx => .inl hx))
   clear hown hgrow o9 kb bx9 bs ks o10 d4 hml
   have hm9 := HM2.out; have hlt9 := HLT.out
   go_wp2
   clear d9 f9
   go_roundw
   case rel => exact ⟨i + 1, u9, c9, by go_num, by omega, BS.out, O10.out, KE.out⟩
   case measure => simp [intOf]; omega
  have hie : i = m := by omega
  subst hie
  have x1 : ¬ ((i : Int) < (i : Int)) := by omega
  have hml := mOps_len a1 i
  have hmr := mOps_right a1 (by have := HM2.out; omega : i <= 1000)
  obtain ⟨wo, hwo⟩ : ∃ wo, wo = wr := ⟨_, rfl⟩
  subst hwo
  have h := renc11 0 0 0 (mOps a1 i) [] 0 0 [] 0 ⟨#[]⟩ 3 0 (.slice ua i uc) (.slice none 0 0) none 0 wo ⟨OW.out.rd, RdK.nil _, RdI.nil _⟩ ⟨by decide, by decide⟩ hmr (by rw [hml]; have := HM2.out; omega)
  obtain ⟨L, hL⟩ : ∃ L, L = ([11] : List UInt8) ++ xqb 3 ++ opsL (mOps a1 i) := ⟨_, rfl⟩
  have hE : En.encL (⟨11, 0, 0, 0, mOps a1 i, [], 0, 0, [], 0, ⟨#[]⟩, 3, 0⟩ : En) = L := by
   have hb : En.body (⟨11, 0, 0, 0, mOps a1 i, [], 0, 0, [], 0, ⟨#[]⟩, 3, 0⟩ : En) = En.b11 (⟨11, 0, 0, 0, mOps a1 i, [], 0, 0, [], 0, ⟨#[]⟩, 3, 0⟩ : En) := by simp [En.body]
   rw [En.encL, hb, hL]
   simp [En.b11]
  have hll : L.length <= 200100 := by
   have h1 := opsK_len hmr (by rw [hml]; have := HM2.out; omega)
   have h2 : (xqb 3).length <= 10 := xqe ⟨by decide, by decide⟩
   rw [hL]; simp only [List.length_append, List.length_singleton]; omega
  rw [<- hL] at h
  have HE := iH h
  have HLL := iH hll
  obtain ⟨x, hx⟩ : ∃ x, x = dEr L := ⟨_, rfl⟩
  obtain ⟨E, hE2⟩ : ∃ E, E = dEn L := ⟨_, rfl⟩
  have HX : RowKit.Hid ((i <= 255 -> x = 0) /\ (255 < i -> x = 2)) := iH (by
   refine ⟨fun h => ?_, fun h => ?_⟩
   ·rw [hx, <- hE]; exact (en_back (mEn_right a1 h)).1
   ·rw [hx, <- hE]; exact en_many ⟨by decide, by decide⟩ (by rw [hml]; exact h) (by rw [hml]; have := HM2.out; omega))
  obtain ⟨k, tx, nx, id1, ops, evs, tn, tm, op, ta, nm, n, at1⟩ := E
  have HD := iH (fun v V (h : Rd V v L) => ed_any k tx nx id1 ops evs tn tm op ta nm n at1 v L x V h (by omega) hx.symm hE2.symm)
  clear h hL hE hll hx hE2 hmr hml
  have d := fun j => cell_of_row wo q j _ _ _ BX.out
  have d0 := d 0
  have d1 := d 1
  have d2 := d 2
  have d3 := d 3
  have d4 := d 4
  have d5 := d 5
  have d6 := d 6
  have d7 := d 7
  have d8 := d 8
  have d9 := d 9
  have d10 := d 10
  have d11 := d 11
  have d12 := d 12
  simp only [List.getElem?_toArray, List.getElem?_cons_zero, List.getElem?_cons_succ] at d0 d1 d2 d3 d4 d5 d6 d7 d8 d9 d10 d11 d12
  clear d
  go_wp2_with fail
  refine (HE.out).mono ?_
  rintro e w4 ⟨v4, rfl, o4, k4⟩
  have O4 := iH o4.rd; have K4 := iH k4
  clear o4 k4
  clear d0 d1 d2 d3 d4 d5 d6 d7 d8 d9 d10 d11 d12
  obtain ⟨a4, n4, c4, e4⟩ := O4.out.shape3
  subst e4
  go_wp2_with fail
  refine (HD.out _ _ O4.out).mono ?_
  rintro e w5 ⟨bo, bo1, be, be1, bi, bi1, rfl, _, k5⟩
  have K5 := iH (K4.out.trans k5 (by simp)); have O5 := iH (O4.out.kept (k5.alloc (.cells #[.int .u8 k, .int .i64 tx, .int .i64 nx, .int .i64 id1, .slice bo ops.length bo1, .slice be evs.length be1, .int .i64 tn, .int .i64 tm, .slice bi op.length bi1, .int .i64 ta, .string nm, .int .i64 n, .int .i64 at1] 41)) (by simp))
  clear k5
  go_wp2_with fail
  refine (reads_any _ L _ O5.out (by have := HLL.out; omega)).mono ?_
  rintro e w6 ⟨rfl, k6⟩
  have K6 := iH ((K5.out.alloc _).trans k6 (by simp))
  clear k6
  have hfin : Below W.heap.size W w6 := ((K2.out.trans KW.out (by intro x hx; simp at hx; exact .inr (by have := HQW.out; omega))).trans K6.out (by simp)).below (Nat.le_refl _) (by simp)
  have HF := iH hfin
  clear hfin
  by_cases h255 : i <= 255
  ·have hx := HX.out.1 h255
   subst hx
   have y1 : decide ((i : Int) <= 255) = true := by simp; omega
   clear h255 HX
   go_wp2
   go_ret
   exact ⟨rfl, HF.out⟩
  have hx := HX.out.2 (by omega)
  subst hx
  have y1 : decide ((i : Int) <= 255) = false := by simp; omega
  clear h255 HX
  go_wp2
  go_ret
  exact ⟨rfl, HF.out⟩
theorem lifted (os : Os) (started : os.Started) (H : Type) (enc : TypeId × Value -> H) :
  ReturnsInHanded {} Try.checked os 6 .any (Rows.entryManySpec.pre6 enc Try.prog Try.f6 Rows.entryManyRow.domain false) (Rows.entryManySpec.post enc Try.prog Try.f6 false true false false) := by
 refine returnsInHanded_of_change (C := Try.checked) own started (by kernel_rfl) Try.func6
  (ChangeSpec.witness6 (enc := enc) (C := Try.checked) false ⟨#[], #[.int .u16 0, .bool false], []⟩ 8 (by kernel_rfl) (by kernel_rfl) (by kernel_rfl) (by kernel_rfl)) ?_
 intro W base args ds gs before hval0 hW hcnd _
 have hval : ∀ (j : Nat) t v, Try.f6.params[j]? = some t -> args[j]? = some v -> Value.okWide Try.prog W .any base t v := hval0
 have hW' := hW
 obtain ⟨p, q, hA0, hV, rfl, hfz, hnd⟩ := hW
 have hA : DataW.TrodAll enc Try.prog W 0 (fun _ => true) true Try.f6.params.toList args.toList ds p := hA0
 rw [Try.params6] at hA hval
 obtain ⟨v0, vs0, d0, ds0, p0, q0, hargs, rfl, rfl, h0, r0⟩ := trodAll_cons hA
 obtain ⟨v1, vs1, d1, ds1, p1, q1, rfl, rfl, rfl, h1, r1⟩ := trodAll_cons r0
 obtain ⟨rfl, rfl, rfl⟩ := trodAll_nil r1
 obtain rfl : args = #[v0, v1] := by cases args; simp_all
 obtain ⟨rfl, rfl⟩ := trodVars_none hV
 obtain ⟨a0, rfl, rfl, rfl, w0⟩ := open_int Try.underlying56 (hval 0 56 v0 rfl rfl) h0
 obtain ⟨a1, rfl, rfl, rfl⟩ := open_bool Try.underlying4 (hval 1 4 v1 rfl rfl) h1
 clear hA0 hval0
 simp only [List.append_nil] at hW'
 refine (walk a0 a1 w0 W).mono fun e W' ⟨he, bel⟩ => ?_
 subst he
 exact ⟨_, rfl, _, _, _, [], _, [], hW', trodAll_mk1 (shut_bool Try.underlying4 _), (trodAll_cons_mk (shut_int Try.underlying56 w0) (trodAll_cons_mk (shut_bool Try.underlying4 a1) trodAll_mk0)), rfl, bel.frame _, fun h => by cases h⟩
theorem over : Rows.entryManyRow.holds Try.pinned (OpenSpec.ofChange Rows.entryManySpec) :=
 OpenClaim.holds_of_wide 6 Try.f6 rfl rfl rfl rfl rfl rfl rfl ⟨rfl, rfl, rfl, rfl, rfl⟩ rfl rfl rfl rfl rfl (by kernel_rfl) Try.func6 (by kernel_rfl)
  (of_decide_eq_true (by kernel_rfl)) (by unfold Func.isWrapper; first | (rw [if_pos (by decide +kernel)]; kernel_rfl) | (rw [if_neg (by decide +kernel)]; exact ⟨rfl, rfl⟩))
  (fun os started H enc _ => lifted os started H enc)
theorem proved : Rows.EntryManySaid :=
 over
end Go.Proofs.Ytjdbmlifekghfaa.entryMany
namespace Go.Proofs.Ytjdbmlifekghfaa
theorem entryMany_holds : Rows.EntryManySaid := entryMany.proved
#print axioms entryMany_holds
end Go.Proofs.Ytjdbmlifekghfaa
