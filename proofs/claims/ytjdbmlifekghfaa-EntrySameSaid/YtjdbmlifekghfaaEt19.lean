/-
  Epi, Erd, Ere in one text.
-/
import Derived.Test.YtjdbmlifekghfaaEt0
import Derived.Test.YtjdbmlifekghfaaEt6
import Derived.Test.YtjdbmlifekghfaaEt18
import Derived.Test.YtjdbmlifekghfaaEt3
set_option linter.unusedVariables false
set_option maxHeartbeats 16000000
set_option maxRecDepth 100000
namespace Go.Proofs.Ytjdbmlifekghfaa
open Go.RowKit
theorem xqh (w V : World) (v : Value) (l : List UInt8) (n : Int) (hk : Kept w V []) (hv : Rd V v l) (hl : l.length <= 1000000000) (hn : whole n) :
  Calls Try.prog 39 #[v, .int .i64 n] V fun en w' => Res w V (l ++ xqb n) en w' := by
 have HN := iH (res_num V V n (Kept.refl V []) ⟨hn.1, by have := hn.2; omega⟩)
 have e0 : IntKind.u64.wrap n = n := by rw [IntKind.wrap_u64]; have := hn.1; have := hn.2; omega
 have HV := iH hv; have HK := iH hk; have HW := iH hn
 obtain ⟨a, len, c, e⟩ := hv.shape3
 clear hv hk hn
 subst e
 go_enter Try.func39, Try.ntmps39
 go_wp2_with fail
 refine HN.out.mono ?_
 rintro en w1 ⟨v1, rfl, r1, k1, t1⟩
 have R1 := iH r1.rd; have K1 := iH k1; have T1 := iH (t1 _ _ HV.out)
 obtain ⟨a1, n1, c1, e1⟩ := r1.shape3
 subst e1
 clear r1 k1 t1
 go_wp2_with fail
 refine (xqK V w1 _ _ l _ K1.out T1.out R1.out (by omega) (by have := xqc (n := n.toNat) (by have := HW.out.2; omega); omega)).mono ?_
 rintro en w2 ⟨v2, rfl, r2, k2, t2⟩
 have R2 := iH r2; have K2 := iH k2; have T2 := iH t2
 obtain ⟨a2, n2, c2, e2⟩ := r2.shape3
 subst e2
 clear r2 k2 t2
 go_wp2
 go_ret
 exact ⟨_, rfl, R2.out.mono HK.out.size, HK.out.trans K2.out (by simp), fun u m hu => hu.kept K2.out (by simp)⟩
theorem rops16_any (w V : World) (v sv : Value) (l : List UInt8) (xs : List Ox) (hk : Kept w V []) (hv : Rd V v l) (hl : l.length <= 10000000) (hs : RdK encO V sv xs) (hr : ∀ o ∈ xs, o.Right) (hn : xs.length <= 1000) :
  Calls Try.prog 40 #[v, sv] V fun en w' => Res w V (l ++ opsL xs) en w' := by
 have HV := iH hv; have HK := iH hk; have HS := iH hs; have HR := iH hr
 have HN := iH (xqh V V v l (xs.length : Int) (Kept.refl V []) hv (by omega) ⟨by omega, by omega⟩)
 obtain ⟨a, len, c, e⟩ := hv.shape3
 obtain ⟨sa, sc, e2⟩ := hs.shape
 clear hv hk hs hr
 subst e e2
 go_enter Try.func40, Try.ntmps40
 go_wp2_with fail
 refine HN.out.mono ?_
 rintro en w1 ⟨v1, rfl, r1, k1, _⟩
 have R1 := iH r1; have K1 := iH k1
 obtain ⟨a1, n1, c1, e1⟩ := r1.shape3
 subst e1
 clear r1 k1
 go_wp2
 go_loopw [0, 5] (fun s0 s5 wr => ∃ (k : Nat) (a : Option Addr) (n c : Nat), s0 = .slice a n c /\ s5 = .int .i64 k /\ k <= xs.length /\ Own wr V.heap.size 5 (.slice a n c) (l ++ numL xs.length ++ xqf Ox.encL (xs.take k)) /\ Kept V wr []) (fun _ s5 _ => xs.length - (intOf s5).toNat)
 case atStart => exact ⟨0, _, _, _, rfl, rfl, Nat.zero_le _, by simpa [xqf, xqb] using R1.out, K1.out⟩
 case round =>
  obtain ⟨k, pa, pn, pc, rfl, rfl, hk, ho, hkw⟩ := hrel
  have O := iH ho; have K := iH hkw
  have hLk : (l ++ numL xs.length ++ xqf Ox.encL (xs.take k)).length <= 20000000 := by
   have h1 := xqA Ox.encL 100 (xs.take k) (fun y hy => Ox.encL_len (HR.out y (List.mem_of_mem_take hy)))
   have h2 := xqc (n := xs.length) (by omega)
   rw [List.length_take] at h1
   simp only [List.length_append]; omega
  have HL := iH hLk
  clear ho hkw hLk
  by_cases hlt : k < xs.length
  ·obtain ⟨x, hx⟩ : ∃ x, xs[k]? = some x := ⟨_, List.getElem?_eq_getElem hlt⟩
   have hor := HR.out x (List.mem_iff_getElem?.2 ⟨k, hx⟩)
   obtain ⟨ab, ao, rfl, _⟩ := (HS.out.keep K.out).at hx
   have HM : RowKit.Hid (xqf Ox.encL (xs.take (k + 1)) = xqf Ox.encL (xs.take k) ++ x.encL) := iH (xqY _ _ hx)
   have CS : RowKit.Hid (∀ Z, Kept V Z [] -> ∀ j, j < 4 -> Z.cell? ⟨ab, ao + k * 4 + j, none⟩ = (x.cs)[j]?) := iH (fun Z hZ j hj => (HS.out.keep hZ).here hx j hj)
   obtain ⟨b0, b1, b2, b3⟩ := x
   have hT : whole b0 := ⟨hor.tb.1, by have h1 : b0 <= 255 := hor.tb.2; omega⟩
   have hKey : -9223372036854775808 <= b2 /\ b2 <= 9223372036854775807 := hor.key
   have hX : b3.size <= 40 := hor.t
   have HT := iH hT; have HKy := iH hKey; have HX := iH hX
   obtain ⟨L, hL⟩ : ∃ L, L = l ++ numL xs.length ++ xqf Ox.encL (xs.take k) := ⟨_, rfl⟩
   rw [<- hL] at O HL
   have HLL := iH hL
   have x1 : (k : Int) < (xs.length : Int) := by omega
   have q0 : wr.cell? ⟨ab, ao + k * 4, none⟩ = some (.int .i64 b0) := CS.out wr K.out 0 (by decide)
   clear hx hor hT hKey hX hL
   have HN1 := iH (xqh V wr _ L b0 K.out O.out.rd (by have := HL.out; omega) HT.out)
   go_wp2_with fail
   refine HN1.out.mono ?_
   rintro en w2 ⟨v2, rfl, r2, k2, _⟩
   obtain ⟨a2, n2, c2, e2⟩ := r2.shape3
   subst e2
   have q1 : w2.cell? ⟨ab, ao + k * 4 + 1, none⟩ = some (.bool b1) := CS.out w2 k2 1 (by decide)
   have L2 : RowKit.Hid ((L ++ xqb b0).length <= 20000010) := iH (by have h1 := HL.out; have h2 := xqc (n := b0.toNat) (by have := HT.out.2; omega); simp only [List.length_append, xqb]; omega)
   have HF : RowKit.Hid (∀ Z vz, Kept V Z [] -> Rd Z vz (L ++ xqb b0) -> Calls Try.prog 39 #[vz, .int .i64 (flag b1 : Nat)] Z fun en w' => Res V Z (L ++ xqb b0 ++ numL (flag b1)) en w') := iH (fun Z vz hZ hv => by
    have := xqh V Z vz _ ((flag b1 : Nat) : Int) hZ hv (by have := L2.out; omega) ⟨by omega, by have := flag_le b1; omega⟩
    simpa [xqb] using this)
   have RR2 := iH r2; have K2 := iH k2
   clear r2 k2 q0
   cases b1
   ·go_wp2_with fail
    refine (HF.out w2 _ K2.out RR2.out.rd).mono ?_
    rintro en w3 ⟨v3, rfl, r3, k3, _⟩
    obtain ⟨a3, n3, c3, e3⟩ := r3.shape3
    subst e3
    obtain ⟨M, hM⟩ : ∃ M, M = L ++ xqb b0 ++ numL (flag false) := ⟨_, rfl⟩
    rw [<- hM] at r3
    have HMl : RowKit.Hid (M.length <= 20000020) := iH (by have h1 := L2.out; have h2 := xqc (n := flag false) (by decide); rw [hM, List.length_append]; omega)
    have HMM := iH hM
    clear hM q1
    have q0 := r3.rd.kept (Kept.refl w3 []).drew (by simp)
    have k8 := k3.drew
    clear r3 k3
    have y2 : w3.drew.cell? ⟨ab, ao + k * 4 + 2, none⟩ = some (.int .i64 b2) /\ w3.drew.cell? ⟨ab, ao + k * 4 + 3, none⟩ = some (.string b3) := ⟨CS.out _ k8 2 (by decide), CS.out _ k8 3 (by decide)⟩
    go_wp2_with fail
    go_region_held3 (fun Z => Z.cell? ⟨ab, ao + k * 4 + 2, none⟩ = some (.int .i64 b2) /\ Z.cell? ⟨ab, ao + k * 4 + 3, none⟩ = some (.string b3)) (exact y2)
     (first
      | (go_at_call 42; refine (res_int V _ b2 k8 HKy.out).mono ?_; rintro en w15 ⟨v15, rfl, r15, k8, t8⟩; (try have q0 := t8 _ _ q0); have qI := r15.rd; (try have qT := t8 _ _ qT); have y2 : w15.cell? ⟨ab, ao + k * 4 + 2, none⟩ = some (.int .i64 b2) /\ w15.cell? ⟨ab, ao + k * 4 + 3, none⟩ = some (.string b3) := ⟨CS.out _ k8 2 (by decide), CS.out _ k8 3 (by decide)⟩)
      | (go_at_call 43; refine (xqW V _ b3 k8 (by have := HX.out; omega)).mono ?_; rintro en w16 ⟨v16, rfl, r16, k8, t8⟩; (try have q0 := t8 _ _ q0); have qT := r16.rd; (try have qI := t8 _ _ qI); (try have qJ := t8 _ _ qJ); have y2 : w16.cell? ⟨ab, ao + k * 4 + 2, none⟩ = some (.int .i64 b2) /\ w16.cell? ⟨ab, ao + k * 4 + 3, none⟩ = some (.string b3) := ⟨CS.out _ k8 2 (by decide), CS.out _ k8 3 (by decide)⟩)
      | (go_at_call 22; refine (xqK V _ _ _ _ _ k8 (by first | exact q0 | exact qJ) (by first | exact qI | exact qT) ?_ ?_).mono ?_; (have h1 := HMl.out; have h2 := xqc (Lib.zigzag_lt HKy.out.1 HKy.out.2); (try simp only [List.length_append, intL]); omega); (first | (have h2 := xqc (Lib.zigzag_lt HKy.out.1 HKy.out.2); simp only [intL]; omega) | (have := xqz HX.out; omega)); rintro en w17 ⟨v17, rfl, r17, k8, t8⟩; have qJ := r17.rd; (try have qT := t8 _ _ qT); have y2 : w17.cell? ⟨ab, ao + k * 4 + 2, none⟩ = some (.int .i64 b2) /\ w17.cell? ⟨ab, ao + k * 4 + 3, none⟩ = some (.string b3) := ⟨CS.out _ k8 2 (by decide), CS.out _ k8 3 (by decide)⟩))
    obtain ⟨a4, n4, c4, e4⟩ := r17.shape3
    subst e4
    have R17 := iH r17; have K17 := iH k8
    clear r17 k8 y2 q0 qI qT qJ t8
    go_wp2
    go_roundw
    case rel =>
     refine ⟨k + 1, _, _, _, rfl, by go_num, by omega, ?_, K17.out⟩
     have := R17.out
     rw [HMM.out] at this
     rw [HM.out, <- List.append_assoc, <- HLL.out]
     simpa only [Ox.encL, Ox.r2, Ox.r3, Ox.r4, xqb, List.append_assoc] using this
    case measure => simp [intOf]; omega
   go_wp2_with fail
   refine (HF.out w2 _ K2.out RR2.out.rd).mono ?_
   rintro en w3 ⟨v3, rfl, r3, k3, _⟩
   obtain ⟨a3, n3, c3, e3⟩ := r3.shape3
   subst e3
   obtain ⟨M, hM⟩ : ∃ M, M = L ++ xqb b0 ++ numL (flag true) := ⟨_, rfl⟩
   rw [<- hM] at r3
   have HMl : RowKit.Hid (M.length <= 20000020) := iH (by have h1 := L2.out; have h2 := xqc (n := flag true) (by decide); rw [hM, List.length_append]; omega)
   have HMM := iH hM
   clear hM q1
   have q0 := r3.rd.kept (Kept.refl w3 []).drew (by simp)
   have k8 := k3.drew
   clear r3 k3
   have y2 : w3.drew.cell? ⟨ab, ao + k * 4 + 2, none⟩ = some (.int .i64 b2) /\ w3.drew.cell? ⟨ab, ao + k * 4 + 3, none⟩ = some (.string b3) := ⟨CS.out _ k8 2 (by decide), CS.out _ k8 3 (by decide)⟩
   go_wp2_with fail
   go_region_held3 (fun Z => Z.cell? ⟨ab, ao + k * 4 + 2, none⟩ = some (.int .i64 b2) /\ Z.cell? ⟨ab, ao + k * 4 + 3, none⟩ = some (.string b3)) (exact y2)
    (first
     | (go_at_call 42; refine (res_int V _ b2 k8 HKy.out).mono ?_; rintro en w15 ⟨v15, rfl, r15, k8, t8⟩; (try have q0 := t8 _ _ q0); have qI := r15.rd; (try have qT := t8 _ _ qT); have y2 : w15.cell? ⟨ab, ao + k * 4 + 2, none⟩ = some (.int .i64 b2) /\ w15.cell? ⟨ab, ao + k * 4 + 3, none⟩ = some (.string b3) := ⟨CS.out _ k8 2 (by decide), CS.out _ k8 3 (by decide)⟩)
     | (go_at_call 43; refine (xqW V _ b3 k8 (by have := HX.out; omega)).mono ?_; rintro en w16 ⟨v16, rfl, r16, k8, t8⟩; (try have q0 := t8 _ _ q0); have qT := r16.rd; (try have qI := t8 _ _ qI); (try have qJ := t8 _ _ qJ); have y2 : w16.cell? ⟨ab, ao + k * 4 + 2, none⟩ = some (.int .i64 b2) /\ w16.cell? ⟨ab, ao + k * 4 + 3, none⟩ = some (.string b3) := ⟨CS.out _ k8 2 (by decide), CS.out _ k8 3 (by decide)⟩)
     | (go_at_call 22; refine (xqK V _ _ _ _ _ k8 (by first | exact q0 | exact qJ) (by first | exact qI | exact qT) ?_ ?_).mono ?_; (have h1 := HMl.out; have h2 := xqc (Lib.zigzag_lt HKy.out.1 HKy.out.2); (try simp only [List.length_append, intL]); omega); (first | (have h2 := xqc (Lib.zigzag_lt HKy.out.1 HKy.out.2); simp only [intL]; omega) | (have := xqz HX.out; omega)); rintro en w17 ⟨v17, rfl, r17, k8, t8⟩; have qJ := r17.rd; (try have qT := t8 _ _ qT); have y2 : w17.cell? ⟨ab, ao + k * 4 + 2, none⟩ = some (.int .i64 b2) /\ w17.cell? ⟨ab, ao + k * 4 + 3, none⟩ = some (.string b3) := ⟨CS.out _ k8 2 (by decide), CS.out _ k8 3 (by decide)⟩))
   obtain ⟨a4, n4, c4, e4⟩ := r17.shape3
   subst e4
   have R17 := iH r17; have K17 := iH k8
   clear r17 k8 y2 q0 qI qT qJ t8
   go_wp2
   go_roundw
   case rel =>
    refine ⟨k + 1, _, _, _, rfl, by go_num, by omega, ?_, K17.out⟩
    have := R17.out
    rw [HMM.out] at this
    rw [HM.out, <- List.append_assoc, <- HLL.out]
    simpa only [Ox.encL, Ox.r2, Ox.r3, Ox.r4, xqb, List.append_assoc] using this
   case measure => simp [intOf]; omega
  have x1 : ¬ (k : Int) < (xs.length : Int) := by omega
  have ek : xs.take k = xs := List.take_of_length_le (by omega)
  go_wp2
  go_ret
  have h := O.out
  rw [ek, List.append_assoc] at h
  exact ⟨_, rfl, h.mono HK.out.size, HK.out.trans K.out (by simp), fun u m hu => hu.kept K.out (by simp)⟩
theorem revents16_any (w V : World) (v sv : Value) (l : List UInt8) (xs : List Px) (hk : Kept w V []) (hv : Rd V v l) (hl : l.length <= 10000000) (hs : RdK encP V sv xs) (hr : ∀ o ∈ xs, o.Right) (hn : xs.length <= 1000) :
  Calls Try.prog 41 #[v, sv] V fun en w' => Res w V (l ++ evsL xs) en w' := by
 have HV := iH hv; have HK := iH hk; have HS := iH hs; have HR := iH hr
 have HN := iH (xqh V V v l (xs.length : Int) (Kept.refl V []) hv (by omega) ⟨by omega, by omega⟩)
 obtain ⟨a, len, c, e⟩ := hv.shape3
 obtain ⟨sa, sc, e2⟩ := hs.shape
 clear hv hk hs hr
 subst e e2
 go_enter Try.func41, Try.ntmps41
 go_wp2_with fail
 refine HN.out.mono ?_
 rintro en w1 ⟨v1, rfl, r1, k1, _⟩
 have R1 := iH r1; have K1 := iH k1
 obtain ⟨a1, n1, c1, e1⟩ := r1.shape3
 subst e1
 clear r1 k1
 go_wp2
 go_loopw [0, 5] (fun s0 s5 wr => ∃ (k : Nat) (a : Option Addr) (n c : Nat), s0 = .slice a n c /\ s5 = .int .i64 k /\ k <= xs.length /\ Own wr V.heap.size 5 (.slice a n c) (l ++ numL xs.length ++ xqf Px.encL (xs.take k)) /\ Kept V wr []) (fun _ s5 _ => xs.length - (intOf s5).toNat)
 case atStart => exact ⟨0, _, _, _, rfl, rfl, Nat.zero_le _, by simpa [xqf, xqb] using R1.out, K1.out⟩
 case round =>
  obtain ⟨k, pa, pn, pc, rfl, rfl, hk, ho, hkw⟩ := hrel
  have O := iH ho; have K := iH hkw; have KA := K
  have hLk : (l ++ numL xs.length ++ xqf Px.encL (xs.take k)).length <= 20000000 := by
   have h1 := xqA Px.encL 300 (xs.take k) (fun y hy => Px.encL_len (HR.out y (List.mem_of_mem_take hy)))
   have h2 := xqc (n := xs.length) (by omega)
   rw [List.length_take] at h1
   simp only [List.length_append]; omega
  have HL := iH hLk
  clear ho hkw hLk
  by_cases hlt : k < xs.length
  ·obtain ⟨x, hx⟩ : ∃ x, xs[k]? = some x := ⟨_, List.getElem?_eq_getElem hlt⟩
   have hor := HR.out x (List.mem_iff_getElem?.2 ⟨k, hx⟩)
   obtain ⟨ab, ao, rfl, _⟩ := (HS.out.keep K.out).at hx
   have HM : RowKit.Hid (xqf Px.encL (xs.take (k + 1)) = xqf Px.encL (xs.take k) ++ x.encL) := iH (xqY _ _ hx)
   have CS : RowKit.Hid (∀ Z, Kept V Z [] -> ∀ j, j < 9 -> Z.cell? ⟨ab, ao + k * 9 + j, none⟩ = (x.cs)[j]?) := iH (fun Z hZ j hj => (HS.out.keep hZ).here hx j hj)
   obtain ⟨b0, E⟩ := x
   have HE := iH (refencode_any E hor.ev hor.ok)
   obtain ⟨EL, hEL⟩ : ∃ EL, EL = E.encL := ⟨_, rfl⟩
   have HEL := iH hEL
   have HEl : RowKit.Hid (EL.length <= 200) := iH (by rw [hEL]; exact Ev.encL_len hor.ev hor.ok)
   rw [<- hEL] at HE
   obtain ⟨b1, b2, b3, b4, b5, b6, b7, b8⟩ := E
   have hT : whole b0 := ⟨hor.sp.1, by have h1 : b0 <= 255 := hor.sp.2; omega⟩
   have HT := iH hT
   obtain ⟨L, hL⟩ : ∃ L, L = l ++ numL xs.length ++ xqf Px.encL (xs.take k) := ⟨_, rfl⟩
   rw [<- hL] at O HL
   have HLL := iH hL
   have x1 : (k : Int) < (xs.length : Int) := by omega
   clear hx hor hT hL hEL
   simp only [Ev.cs] at HE
   go_upto_region 5 with fail
   refine wp_region_held_drew (S := fun Z => Kept V Z []) (by kernel_rfl) KA.out.drew (fun hJ => ?_)
   refine wx 0 16 (.slice pa pn pc) rfl hJ ?_
   refine wx 1 17 (.slice (some ⟨ab, ao, none⟩) xs.length sc) rfl hJ ?_
   refine wx 2 18 (.int .i64 k) rfl hJ ?_
   refine wx 3 19 (.pointer (some ⟨ab, ao + k * 9, none⟩)) rfl hJ ?_
   refine wx 4 20 (.pointer (some ⟨ab, ao + k * 9, none⟩)) rfl hJ ?_
   refine wx 5 21 (.int .i64 b0) rfl hJ ?_ (hy := fun V hV => by (have q0 := CS.out V hV 0 (by decide); have q1 := CS.out V hV 1 (by decide); have q2 := CS.out V hV 2 (by decide); have q3 := CS.out V hV 3 (by decide); have q4 := CS.out V hV 4 (by decide); have q5 := CS.out V hV 5 (by decide); have q6 := CS.out V hV 6 (by decide); have q7 := CS.out V hV 7 (by decide); have q8 := CS.out V hV 8 (by decide); clear hV; simp only [Px.cs, List.getElem?_toArray, List.getElem?_cons_zero, List.getElem?_cons_succ, Nat.add_zero] at q0 q1 q2 q3 q4 q5 q6 q7 q8; go_simp))
   refine wx 7 23 (.slice (some ⟨ab, ao, none⟩) xs.length sc) rfl hJ ?_
   refine wx 8 24 (.int .i64 k) rfl hJ ?_
   refine wx 9 25 (.pointer (some ⟨ab, ao + k * 9, none⟩)) rfl hJ ?_
   refine wx 10 26 (.pointer (some ⟨ab, ao + k * 9 + 1, none⟩)) rfl hJ ?_
   refine wx 11 27 (.agg #[.int .i64 b1, .int .i64 b2, .string b3, .int .i64 b4, .int .i64 b5, .int .u8 b6, .int .i64 b7, .string b8]) rfl hJ ?_ (hy := fun V hV => by (have q0 := CS.out V hV 0 (by decide); have q1 := CS.out V hV 1 (by decide); have q2 := CS.out V hV 2 (by decide); have q3 := CS.out V hV 3 (by decide); have q4 := CS.out V hV 4 (by decide); have q5 := CS.out V hV 5 (by decide); have q6 := CS.out V hV 6 (by decide); have q7 := CS.out V hV 7 (by decide); have q8 := CS.out V hV 8 (by decide); clear hV; simp only [Px.cs, List.getElem?_toArray, List.getElem?_cons_zero, List.getElem?_cons_succ, Nat.add_zero] at q0 q1 q2 q3 q4 q5 q6 q7 q8; go_simp))
   refine wr1 6 rfl (fun K hK => ?_)
   go_simp
   go_at_call 39
   refine (xqh V _ _ L b0 KA.out.drew (O.out.rd.kept (Kept.refl _ []).drew (by simp)) (by have := HL.out; omega) HT.out).mono ?_
   rintro en w2 ⟨v2, rfl, r2, k2, _⟩
   obtain ⟨a2, n2, c2, e2⟩ := r2.shape3
   subst e2
   go_wp2_with fail
   refine hK.out _ _ k2 (fun hJ => ?_)
   clear hK K
   refine wr1 12 rfl (fun K hK => ?_)
   go_simp
   go_at_call 68
   refine (HE.out _).mono ?_
   rintro en w3 ⟨v3, rfl, o3, k3⟩
   obtain ⟨a3, n3, c3, e3⟩ := o3.shape3
   subst e3
   have cv := conv_rd w3 _ _ o3.rd
   have r2 := r2.rd.kept k3 (by simp)
   have k3 := k2.trans k3 (by simp)
   clear k2 o3
   go_wp2_with fail
   refine hK.out _ _ k3 (fun hJ => ?_)
   clear hK K
   refine wr1 13 rfl (fun K hK => ?_)
   go_wp2_with fail
   refine hK.out _ _ k3 (fun hJ => ?_)
   clear hK K
   refine wr1 14 rfl (fun K hK => ?_)
   go_simp
   go_at_call 43
   refine (xqW V _ (strL EL) k3 (by rw [strL_size]; have := HEl.out; omega)).mono ?_
   rintro en w4 ⟨v4, rfl, r4, k4, t4⟩
   obtain ⟨a4, n4, c4, e4⟩ := r4.shape3
   subst e4
   have r2 := t4 _ _ r2
   clear k3 t4 cv
   go_wp2_with fail
   refine hK.out _ _ k4 (fun hJ => ?_)
   clear hK K
   refine wr1 15 rfl (fun K hK => ?_)
   go_simp
   go_at_call 22
   refine (xqK V _ _ _ _ _ k4 r2 r4.rd (by have := HL.out; have h2 := xqc (n := b0.toNat) (by have := HT.out.2; omega); simp only [List.length_append, xqb]; omega) (by have h1 := HEl.out; have h2 := xqc (n := EL.length) (by omega); simp only [xqr, strL_data, List.length_append]; omega)).mono ?_
   rintro en w5 ⟨v5, rfl, r5, k5, _⟩
   obtain ⟨a5, n5, c5, e5⟩ := r5.shape3
   subst e5
   clear k4 r4 r2
   go_wp2_with fail
   refine hK.out _ _ k5 (fun hJ => ?_)
   clear hK K
   refine wpAnyH_take (i := 16) (oi := _) (v := .slice a5 n5 c5) rfl (by kernel_rfl) (by kernel_rfl) (by kernel_rfl) (fun _ _ _ h => h) (Or.inl ⟨by rfl, fun V hV => by go_simp⟩) hJ ?_
   change wpAnyH _ _ _ _ _ _ _ (Act.put _ (some 0) _) _
   simp only [Act.put, List.setIfInBounds_toArray, List.set_cons_zero]
   refine wd ?_
   have R5 := iH r5
   have K5 := iH k5
   clear hJ r5 k5
   go_wp2
   go_roundw
   case rel =>
    refine ⟨k + 1, _, _, _, rfl, by go_num, by omega, ?_, K5.out⟩
    have := R5.out
    rw [HM.out, <- List.append_assoc, <- HLL.out]
    simpa only [Px.encL, <- HEL.out, xqb, strL_data, List.append_assoc] using this
   case measure => simp [intOf]; omega
  have x1 : ¬ (k : Int) < (xs.length : Int) := by omega
  have ek : xs.take k = xs := List.take_of_length_le (by omega)
  go_wp2
  go_ret
  have h := O.out
  rw [ek, List.append_assoc] at h
  exact ⟨_, rfl, h.mono HK.out.size, HK.out.trans K.out (by simp), fun u m hu => hu.kept K.out (by simp)⟩
theorem opsK_len {l : List Ox} (h : ∀ o ∈ l, o.Right) (hn : l.length <= 1000) : (opsL l).length <= 100010 := by
 have h1 := xqA Ox.encL 100 l (fun y hy => Ox.encL_len (h y hy))
 have h2 := xqc (n := l.length) (by omega)
 simp only [opsL, List.length_append]; omega
theorem evsK_len {l : List Px} (h : ∀ o ∈ l, o.Right) (hn : l.length <= 1000) : (evsL l).length <= 300010 := by
 have h1 := xqA Px.encL 300 l (fun y hy => Px.encL_len (h y hy))
 have h2 := xqc (n := l.length) (by omega)
 simp only [evsL, List.length_append]; omega
theorem openK_len {l : List Int} (h : ∀ o ∈ l, whole o) (hn : l.length <= 1000) : (xqf xqb l).length <= 10000 := by
 have h1 := xqA xqb 10 l (fun y hy => xqe (h y hy))
 omega
theorem renc9 (tx nx id1 : Int) (ops : List Ox) (evs : List Px) (tn tm : Int) (op : List Int) (ta : Int) (nm : ByteArray) (n at1 : Int) (vo ve : Value) (ia : Option Addr) (ic1 : Nat) (w : World) (rd : RdN w (⟨9, tx, nx, id1, ops, evs, tn, tm, op, ta, nm, n, at1⟩ : En) vo ve (.slice ia op.length ic1)) (hn : whole n) :
  Calls Try.prog 17 #[.agg #[.int .u8 9, .int .i64 tx, .int .i64 nx, .int .i64 id1, vo, ve, .int .i64 tn, .int .i64 tm, .slice ia op.length ic1, .int .i64 ta, .string nm, .int .i64 n, .int .i64 at1]] w fun en w' => ∃ v', en = .returned v' /\ Own w' w.heap.size 5 v' (([9] : List UInt8) ++ xqb n) /\ Kept w w' [] := by
 have l0 := xqe hn
 have HL0 : RowKit.Hid ((([9] : List UInt8)).length <= 1000000) := iH (by decide)
 have HL1 : RowKit.Hid ((([9] : List UInt8) ++ xqb n).length <= 1000000) := iH (by simp only [List.length_append, List.length_singleton]; omega)
 clear l0
 have Hhn := iH hn
 clear hn
 obtain ⟨W2, hW2⟩ : ∃ W2, W2 = (w.alloc (.cells #[.int .u8 9, .int .i64 tx, .int .i64 nx, .int .i64 id1, vo, ve, .int .i64 tn, .int .i64 tm, .slice ia op.length ic1, .int .i64 ta, .string nm, .int .i64 n, .int .i64 at1] 35)).alloc (.cells #[.int .u8 9] 5) := ⟨_, rfl⟩
 have kb : Kept w W2 [] := by rw [hW2]; exact ((Kept.refl w []).alloc _).alloc _
 have b2 : W2.heap[w.heap.size]? = some (.cells #[.int .u8 9, .int .i64 tx, .int .i64 nx, .int .i64 id1, vo, ve, .int .i64 tn, .int .i64 tm, .slice ia op.length ic1, .int .i64 ta, .string nm, .int .i64 n, .int .i64 at1] 35 (0, 0)) := by rw [hW2]; exact ((Kept.refl _ []).alloc _).heap (by simp) (heap_alloc_new w _)
 have r2 : Rd W2 (.slice (some ⟨w.heap.size + 1, 0, none⟩) 1 1) [9] := by
  have := xq1 (w.alloc (.cells #[.int .u8 9, .int .i64 tx, .int .i64 nx, .int .i64 id1, vo, ve, .int .i64 tn, .int .i64 tm, .slice ia op.length ic1, .int .i64 ta, .string nm, .int .i64 n, .int .i64 at1] 35)) [9] #[.int .u8 9] 5 1 rfl rfl
  rw [hW2]; simpa using this
 have RN := iH (fun V (hV : Kept W2 V []) => (rd.keep kb).keep hV)
 have KB := iH kb; have B2 := iH b2
 have KA := iH (Kept.refl W2 [])
 have R0 := iH r2
 clear kb b2 r2 rd
 go_enter Try.func17, Try.ntmps17
 go_upto_region 29 with fail
 rw [<- hW2]
 clear hW2
 have hh := KA.out.heap (by simp) B2.out
 have c0 := cell_of_row W2 _ 0 _ _ _ hh
 have c11 := cell_of_row W2 _ 11 _ _ _ hh
 simp only [List.getElem?_toArray, List.getElem?_cons_zero, List.getElem?_cons_succ] at c0 c11
 clear hh
 go_wp2_with fail
 refine (xqh W2 _ _ _ n KA.out R0.out (by have := HL0.out; omega) Hhn.out).mono ?_
 clear c0 c11
 rintro en w1x ⟨v1, rfl, r1, k1, t1⟩
 obtain ⟨a1z, n1z, c1z, e1z⟩ := r1.shape3
 subst e1z
 have R1 := iH r1; have K1 := iH k1
 clear r1 k1 t1
 have hh := K1.out.heap (by simp) B2.out
 have c0 := cell_of_row w1x _ 0 _ _ _ hh
 simp only [List.getElem?_toArray, List.getElem?_cons_zero] at c0
 clear hh
 go_wp2
 go_ret
 exact ⟨_, rfl, R1.out.mono KB.out.size, KB.out.trans K1.out (by simp)⟩
theorem renc10 (tx nx id1 : Int) (ops : List Ox) (evs : List Px) (tn tm : Int) (op : List Int) (ta : Int) (nm : ByteArray) (n at1 : Int) (vo ve : Value) (ia : Option Addr) (ic1 : Nat) (w : World) (rd : RdN w (⟨10, tx, nx, id1, ops, evs, tn, tm, op, ta, nm, n, at1⟩ : En) vo ve (.slice ia op.length ic1)) (hn : whole n) :
  Calls Try.prog 17 #[.agg #[.int .u8 10, .int .i64 tx, .int .i64 nx, .int .i64 id1, vo, ve, .int .i64 tn, .int .i64 tm, .slice ia op.length ic1, .int .i64 ta, .string nm, .int .i64 n, .int .i64 at1]] w fun en w' => ∃ v', en = .returned v' /\ Own w' w.heap.size 5 v' (([10] : List UInt8) ++ xqb n) /\ Kept w w' [] := by
 have l0 := xqe hn
 have HL0 : RowKit.Hid ((([10] : List UInt8)).length <= 1000000) := iH (by decide)
 have HL1 : RowKit.Hid ((([10] : List UInt8) ++ xqb n).length <= 1000000) := iH (by simp only [List.length_append, List.length_singleton]; omega)
 clear l0
 have Hhn := iH hn
 clear hn
 obtain ⟨W2, hW2⟩ : ∃ W2, W2 = (w.alloc (.cells #[.int .u8 10, .int .i64 tx, .int .i64 nx, .int .i64 id1, vo, ve, .int .i64 tn, .int .i64 tm, .slice ia op.length ic1, .int .i64 ta, .string nm, .int .i64 n, .int .i64 at1] 35)).alloc (.cells #[.int .u8 10] 5) := ⟨_, rfl⟩
 have kb : Kept w W2 [] := by rw [hW2]; exact ((Kept.refl w []).alloc _).alloc _
 have b2 : W2.heap[w.heap.size]? = some (.cells #[.int .u8 10, .int .i64 tx, .int .i64 nx, .int .i64 id1, vo, ve, .int .i64 tn, .int .i64 tm, .slice ia op.length ic1, .int .i64 ta, .string nm, .int .i64 n, .int .i64 at1] 35 (0, 0)) := by rw [hW2]; exact ((Kept.refl _ []).alloc _).heap (by simp) (heap_alloc_new w _)
 have r2 : Rd W2 (.slice (some ⟨w.heap.size + 1, 0, none⟩) 1 1) [10] := by
  have := xq1 (w.alloc (.cells #[.int .u8 10, .int .i64 tx, .int .i64 nx, .int .i64 id1, vo, ve, .int .i64 tn, .int .i64 tm, .slice ia op.length ic1, .int .i64 ta, .string nm, .int .i64 n, .int .i64 at1] 35)) [10] #[.int .u8 10] 5 1 rfl rfl
  rw [hW2]; simpa using this
 have RN := iH (fun V (hV : Kept W2 V []) => (rd.keep kb).keep hV)
 have KB := iH kb; have B2 := iH b2
 have KA := iH (Kept.refl W2 [])
 have R0 := iH r2
 clear kb b2 r2 rd
 go_enter Try.func17, Try.ntmps17
 go_upto_region 29 with fail
 rw [<- hW2]
 clear hW2
 have hh := KA.out.heap (by simp) B2.out
 have c0 := cell_of_row W2 _ 0 _ _ _ hh
 have c11 := cell_of_row W2 _ 11 _ _ _ hh
 simp only [List.getElem?_toArray, List.getElem?_cons_zero, List.getElem?_cons_succ] at c0 c11
 clear hh
 go_wp2_with fail
 refine (xqh W2 _ _ _ n KA.out R0.out (by have := HL0.out; omega) Hhn.out).mono ?_
 clear c0 c11
 rintro en w1x ⟨v1, rfl, r1, k1, t1⟩
 obtain ⟨a1z, n1z, c1z, e1z⟩ := r1.shape3
 subst e1z
 have R1 := iH r1; have K1 := iH k1
 clear r1 k1 t1
 have hh := K1.out.heap (by simp) B2.out
 have c0 := cell_of_row w1x _ 0 _ _ _ hh
 simp only [List.getElem?_toArray, List.getElem?_cons_zero] at c0
 clear hh
 go_wp2
 go_ret
 exact ⟨_, rfl, R1.out.mono KB.out.size, KB.out.trans K1.out (by simp)⟩
theorem renc11 (tx nx id1 : Int) (ops : List Ox) (evs : List Px) (tn tm : Int) (op : List Int) (ta : Int) (nm : ByteArray) (n at1 : Int) (vo ve : Value) (ia : Option Addr) (ic1 : Nat) (w : World) (rd : RdN w (⟨11, tx, nx, id1, ops, evs, tn, tm, op, ta, nm, n, at1⟩ : En) vo ve (.slice ia op.length ic1)) (hn : whole n) (ho : ∀ o ∈ ops, o.Right) (hol : ops.length <= 1000) :
  Calls Try.prog 17 #[.agg #[.int .u8 11, .int .i64 tx, .int .i64 nx, .int .i64 id1, vo, ve, .int .i64 tn, .int .i64 tm, .slice ia op.length ic1, .int .i64 ta, .string nm, .int .i64 n, .int .i64 at1]] w fun en w' => ∃ v', en = .returned v' /\ Own w' w.heap.size 5 v' (([11] : List UInt8) ++ xqb n ++ opsL ops) /\ Kept w w' [] := by
 have l0 := xqe hn
 have l1 := opsK_len ho hol
 have HL0 : RowKit.Hid ((([11] : List UInt8)).length <= 1000000) := iH (by decide)
 have HL1 : RowKit.Hid ((([11] : List UInt8) ++ xqb n).length <= 1000000) := iH (by simp only [List.length_append, List.length_singleton]; omega)
 have HL2 : RowKit.Hid ((([11] : List UInt8) ++ xqb n ++ opsL ops).length <= 1000000) := iH (by simp only [List.length_append, List.length_singleton]; omega)
 clear l0 l1
 have Hhn := iH hn
 have Hho := iH ho
 have Hhol := iH hol
 clear hn ho hol
 obtain ⟨W2, hW2⟩ : ∃ W2, W2 = (w.alloc (.cells #[.int .u8 11, .int .i64 tx, .int .i64 nx, .int .i64 id1, vo, ve, .int .i64 tn, .int .i64 tm, .slice ia op.length ic1, .int .i64 ta, .string nm, .int .i64 n, .int .i64 at1] 35)).alloc (.cells #[.int .u8 11] 5) := ⟨_, rfl⟩
 have kb : Kept w W2 [] := by rw [hW2]; exact ((Kept.refl w []).alloc _).alloc _
 have b2 : W2.heap[w.heap.size]? = some (.cells #[.int .u8 11, .int .i64 tx, .int .i64 nx, .int .i64 id1, vo, ve, .int .i64 tn, .int .i64 tm, .slice ia op.length ic1, .int .i64 ta, .string nm, .int .i64 n, .int .i64 at1] 35 (0, 0)) := by rw [hW2]; exact ((Kept.refl _ []).alloc _).heap (by simp) (heap_alloc_new w _)
 have r2 : Rd W2 (.slice (some ⟨w.heap.size + 1, 0, none⟩) 1 1) [11] := by
  have := xq1 (w.alloc (.cells #[.int .u8 11, .int .i64 tx, .int .i64 nx, .int .i64 id1, vo, ve, .int .i64 tn, .int .i64 tm, .slice ia op.length ic1, .int .i64 ta, .string nm, .int .i64 n, .int .i64 at1] 35)) [11] #[.int .u8 11] 5 1 rfl rfl
  rw [hW2]; simpa using this
 have RN := iH (fun V (hV : Kept W2 V []) => (rd.keep kb).keep hV)
 have KB := iH kb; have B2 := iH b2
 have KA := iH (Kept.refl W2 [])
 have R0 := iH r2
 clear kb b2 r2 rd
 go_enter Try.func17, Try.ntmps17
 go_upto_region 29 with fail
 rw [<- hW2]
 clear hW2
 have hh := KA.out.heap (by simp) B2.out
 have c0 := cell_of_row W2 _ 0 _ _ _ hh
 have c11 := cell_of_row W2 _ 11 _ _ _ hh
 simp only [List.getElem?_toArray, List.getElem?_cons_zero, List.getElem?_cons_succ] at c0 c11
 clear hh
 go_wp2_with fail
 refine (xqh W2 _ _ _ n KA.out R0.out (by have := HL0.out; omega) Hhn.out).mono ?_
 clear c0 c11
 rintro en w1x ⟨v1, rfl, r1, k1, t1⟩
 obtain ⟨a1z, n1z, c1z, e1z⟩ := r1.shape3
 subst e1z
 have R1 := iH r1; have K1 := iH k1
 clear r1 k1 t1
 have hh := K1.out.heap (by simp) B2.out
 have c0 := cell_of_row w1x _ 0 _ _ _ hh
 have c4 := cell_of_row w1x _ 4 _ _ _ hh
 simp only [List.getElem?_toArray, List.getElem?_cons_zero, List.getElem?_cons_succ] at c0 c4
 clear hh
 go_wp2_with fail
 refine (rops16_any W2 _ _ _ _ ops K1.out R1.out.rd (by have := HL1.out; omega) (RN.out _ K1.out).ro Hho.out Hhol.out).mono ?_
 clear c0 c4
 rintro en w2x ⟨v2, rfl, r2, k2, t2⟩
 obtain ⟨a2z, n2z, c2z, e2z⟩ := r2.shape3
 subst e2z
 have R2 := iH r2; have K2 := iH k2
 clear r2 k2 t2
 have hh := K2.out.heap (by simp) B2.out
 have c0 := cell_of_row w2x _ 0 _ _ _ hh
 simp only [List.getElem?_toArray, List.getElem?_cons_zero] at c0
 clear hh
 go_wp2
 go_ret
 exact ⟨_, rfl, R2.out.mono KB.out.size, KB.out.trans K2.out (by simp)⟩
end Go.Proofs.Ytjdbmlifekghfaa
