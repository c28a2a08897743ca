/-
  Soe, Sof in one text.
-/
import Derived.Test.YticiofkiffgclaaGreatQo9
import Derived.Deep.DeepCutAuto
namespace Go.Proofs.YticiofkiffgclaaGreat
open Go.Shelf Go.RowKit Go.Lib Go.Sort

variable {P : Program} {α : Type} [Inhabited α] {k : Nat} {enc : α → List Value} {w0 : World} {blk off : Nat} {d0 : Array α}

set_option maxHeartbeats 4000000 in
set_option maxRecDepth 1000000 in
theorem sym_back (L : SL P k) (R : RowK enc k w0 blk off d0) {c : α → α → Bool} (T : Tot c) {cf : α → α → Int} (hcf : ∀ x y, cf x y < 0 ↔ c y x = false) (g : Nat) (cb : Array Value) (eg : ∀ args w, (callFunc g args).run P w = .ok (.enter g args) w) (hcmp : CmpLays P g cb enc k cf blk off d0.size w0)
    (cap : Nat) (A : List α) (X : List α) (y : α) (B : List α) (d : Array α) (w : World) (hd : d.toList = A ++ X ++ [y] ++ B) (hs : d.size = d0.size) (S : SWK enc k w0 blk off d w) (hsz : d.size < 4611686018427387904) (hX : Srt c X) (hX1 : X.length ≠ 1)
    (sz a m b : Nat) (hz : sz = d.size) (ha : a = A.length) (hm : m = a + X.length) (hb : b = m + 1) :
    Calls P 186 #[.slice (some ⟨blk, off, none⟩) sz cap, .int .i64 a, .int .i64 m, .int .i64 b, .func (.func g) #[] cb] w fun e w' => e = .returned (.tuple #[]) ∧ ∃ d' : Array α, d'.toList = A ++ srt c (X ++ [y]) ++ B ∧ SWK enc k w0 blk off d' w' := by
  have mixed := L.mixed; have t0 := L.t0; have a0 := L.a0; have z0 := L.z0; have v0 := L.v0; have t3 := L.t3; have a3 := L.a3; have z3 := L.z3; have v3 := L.v3; have t4 := L.t4; have a4 := L.a4; have z4 := L.z4; have v4 := L.v4; have t5 := L.t5; have a5 := L.a5; have z5 := L.z5; have v5 := L.v5; have t6 := L.t6; have a6 := L.a6; have z6 := L.z6; have v6 := L.v6; have t7 := L.t7; have a7 := L.a7; have z7 := L.z7; have v7 := L.v7; have aE := L.aE; have zE := L.zE
  have u6 := run_underlying L.t6; have u5 := run_underlying L.t5; have u3 := run_underlying L.t3
  have S0 : Aside (SWK enc k w0 blk off d w) := S
  have HC : Aside _ := hcmp
  have HD : Hid (d.toList = A ++ X ++ [y] ++ B) := Lib.hid hd
  have HS : Hid (d.size = d0.size ∧ sz = d.size) := Lib.hid ⟨hs, hz⟩
  have hfit : b ≤ sz := by
    have := congrArg List.length hd
    simp at this
    omega
  have HN : Hid (a = A.length ∧ b = m + 1 ∧ m = a + X.length) := Lib.hid ⟨ha, hb, hm⟩
  have hszi : sz < 4611686018427387904 := by omega
  have hmb : a ≤ m := by omega
  have hbm : m < b := by omega
  have hm1 : ((m : Int) - (a : Int) == 1) = false := beq_eq_false_iff_ne.2 (by omega)
  have hm2 : (b : Int) - (m : Int) = 1 := by omega
  have HT : Hid (Tot c) := Lib.hid T
  have HX : Hid (Srt c X) := Lib.hid hX
  have HCF : Hid (∀ x y, cf x y < 0 ↔ c y x = false) := Lib.hid hcf
  clear S hcmp hd hs hz ha hb hm hsz hX hX1 hcf T
  go_enter L.fm, Tryz.ntmps186
  go_wp2
  go_loopg [14, 15, 16] (m - a) (fun kx s10 s11 _ wr => ∃ (i j : Nat), s10 = .int .i64 i ∧ s11 = .int .i64 j ∧ a ≤ i ∧ i ≤ j ∧ j ≤ m ∧ j - i ≤ kx ∧ Aside (SWK enc k w0 blk off d wr) ∧ Hid ((∀ x ∈ X.take (i - a), c x y = true) ∧ ∀ x ∈ X.drop (j - a), c x y = false))
  case atStart => exact ⟨a, m, rfl, rfl, by omega, by omega, by omega, by omega, S0, by simp, by have := HN.out; rw [List.drop_of_length_le (by omega)]; simp⟩
  case round =>
    clear S0
    obtain ⟨i, j, rfl, rfl, hmi, hij, hjb, hkx, S1, HL⟩ := hrel
    by_cases hlt : i < j
    · have x1 : (i : Int) < (j : Int) := by omega
      obtain ⟨h, hk1, hk2, e2, e3⟩ := half i j hlt (by omega)
      have E := Lib.hid (And.intro e2 e3)
      clear e2 e3
      obtain ⟨X1, X2, x, hXx, lX, -⟩ := mid_split X (i := h - a) (by have := HN.out; omega)
      have q1 : d.toList = (A ++ X1) ++ x :: (X2 ++ [y] ++ B) := by rw [HD.out, hXx]; simp
      have q0 : d.toList = (A ++ X) ++ y :: B := by rw [HD.out]; simp
      obtain ⟨ih, eh⟩ := at_list (i := h) q1 (by have := HN.out; simp; omega)
      obtain ⟨ia, ea0⟩ := at_list (i := m) q0 (by have := HN.out; simp; omega)
      obtain ⟨sp1, sp2⟩ := srt_parts HT.out (P := X1) (y := x) (R := X2) (by rw [← hXx]; exact HX.out)
      have eh1 : ((h : Int)).toNat = h := by omega
      have ph : (0 : Int) ≤ (h : Int) := by omega
      have bh : (h : Int) < (sz : Int) := by omega
      have rh : IntKind.i64.wrap ((h : Int)) = (h : Int) := by rw [IntKind.wrap_i64]; omega
      have ea1 : ((m : Int)).toNat = m := by omega
      have pa : (0 : Int) ≤ (m : Int) := by omega
      have ba : (m : Int) < (sz : Int) := by omega
      have ra : IntKind.i64.wrap ((m : Int)) = (m : Int) := by rw [IntKind.wrap_i64]; omega
      have lh := S1.out.ld R HS.out.1 P h ih
      have la := S1.out.ld R HS.out.1 P m ia
      rw [eh] at lh
      rw [ea0] at la
      have hc := S1.out.cmp HC.out HS.out.1 y x
      have tk : X.take (h + 1 - a) = X1 ++ [x] := by
        rw [hXx, show X1 ++ x :: X2 = (X1 ++ [x]) ++ X2 by simp]
        exact List.take_left' (by simp; omega)
      have dp : X.drop (h - a) = x :: X2 := by
        rw [hXx, ← lX]; simp
      by_cases hv : c x y = false
      · have hv1 : cf y x < 0 := (HCF.out y x).2 hv
        have hd1 : decide (cf y x < 0) = true := decide_eq_true hv1
        have HR : Hid ((∀ x ∈ X.take (i - a), c x y = true) ∧ ∀ x ∈ X.drop (h - a), c x y = false) := Lib.hid ⟨HL.out.1, by
          rw [dp]
          intro z hz
          cases hxz : c z y with
          | false => rfl
          | true => rw [HT.out.trans x z y (sp2 z hz) hxz] at hv; simp at hv⟩
        clear HL hv tk dp sp1 sp2 q0 q1 eh ea0 hXx lX ih ia
        obtain ⟨e2, e3⟩ := E.out
        go_wp2_with fail
        go_quiet_grown (first | (go_at_fn g; refine Calls.grown_of (hc _ _)))
        have S2 : Aside (SWK enc k w0 blk off d (grow (wr.drewN nq) osq)) := S1.out.grown nq osq
        clear lh la hc S1
        generalize grow (wr.drewN nq) osq = w2 at S2 ⊢
        go_wp2
        go_roundg (h - i)
        case measure => omega
        case rel => exact ⟨i, h, rfl, rfl, hmi, by omega, by omega, Nat.le_refl _, S2, HR⟩
      · have hv1 : ¬ cf y x < 0 := fun hn => hv ((HCF.out y x).1 hn)
        have hd1 : decide (cf y x < 0) = false := decide_eq_false hv1
        have HR : Hid ((∀ x ∈ X.take (h + 1 - a), c x y = true) ∧ ∀ x ∈ X.drop (j - a), c x y = false) := Lib.hid ⟨by
          rw [tk]
          intro z hz
          exact HT.out.trans z x y (sp1 z hz) (by simpa using hv), HL.out.2⟩
        clear HL hv tk dp sp1 sp2 q0 q1 eh ea0 hXx lX ih ia
        obtain ⟨e2, e3⟩ := E.out
        go_wp2_with fail
        go_quiet_grown (first | (go_at_fn g; refine Calls.grown_of (hc _ _)))
        have S2 : Aside (SWK enc k w0 blk off d (grow (wr.drewN nq) osq)) := S1.out.grown nq osq
        clear lh la hc S1
        generalize grow (wr.drewN nq) osq = w2 at S2 ⊢
        go_wp2
        go_roundg (j - (h + 1))
        case measure => omega
        case rel => exact ⟨h + 1, j, by go_num, rfl, by omega, by omega, hjb, Nat.le_refl _, S2, HR⟩
    · have x1 : ¬ (i : Int) < (j : Int) := by omega
      obtain rfl : i = j := by omega
      obtain ⟨X1, X2, hXe, l1, l2⟩ := list_cut X (i - a) (by have := HN.out; omega)
      have HE : Hid (X = X1 ++ X2 ∧ X1.length = i - a ∧ srt c (X ++ [y]) = X1 ++ y :: X2) := Lib.hid ⟨hXe, l1, by
        obtain ⟨f1, f2⟩ := HL.out
        rw [hXe, ← l1, List.take_left] at f1
        rw [hXe, ← l1, List.drop_left] at f2
        rw [hXe]
        exact srt_back HT.out (by rw [← hXe]; exact HX.out) f1 f2⟩
      clear HL hXe l1 l2
      go_wp2
      go_loopg [17] (m - i) (fun kx s13 wr2 => ∃ (q : Nat) (dk : Array α), s13 = .int .i64 q ∧ i ≤ q ∧ q ≤ m ∧ q - i ≤ kx ∧ dk.size = d0.size ∧ Aside (SWK enc k w0 blk off dk wr2) ∧ Hid (∃ U V, X2 = U ++ V ∧ U.length = q - i ∧ dk.toList = A ++ X1 ++ U ++ y :: V ++ B))
      case atStart => exact ⟨m, d, rfl, by omega, by omega, by omega, HS.out.1, S1, X2, [], by simp, by
        obtain ⟨h1, h2, h3⟩ := HE.out
        obtain ⟨n1, n2, n3⟩ := HN.out
        rw [h1] at n3; simp at n3; omega, by rw [HD.out, HE.out.1]; simp⟩
      case round =>
        clear S1
        obtain ⟨q, dk, rfl, haq, hqi, hkx2, hds, S1, HL⟩ := hrel
        by_cases hql : i < q
        · have x2 : (i : Int) < (q : Int) := by omega
          obtain ⟨p, rfl⟩ : ∃ p, q = p + 1 := ⟨q - 1, by omega⟩
          obtain ⟨u, V1, V3, q0, q1, HR⟩ : ∃ u V1 V3, dk.toList = V1 ++ u :: ([] ++ y :: V3) ∧ p = V1.length ∧ Hid (∃ U V, X2 = U ++ V ∧ U.length = p - i ∧ V1 ++ y :: ([] ++ u :: V3) = A ++ X1 ++ U ++ y :: V ++ B) := by
            obtain ⟨U, V, e1, e2, e3⟩ := HL.out
            obtain ⟨h1, h2, h3⟩ := HE.out
            obtain ⟨n1, n2, n3⟩ := HN.out
            rcases List.eq_nil_or_concat U with rfl | ⟨U, u, rfl⟩
            · simp at e2; omega
            · simp at e2
              exact ⟨u, A ++ X1 ++ U, V ++ B, by rw [e3]; simp, by simp; omega, Lib.hid ⟨U, u :: V, by rw [e1]; simp, by omega, by simp⟩⟩
          have T1 := swp_list' (i := p) (j := p + 1) q0 q1 (by simp; omega)
          obtain ⟨i1, e1⟩ := at_list q0 q1
          obtain ⟨i2, e2⟩ := at_list (P := V1 ++ [u]) (R := V3) (x := y) (i := p + 1) (by rw [q0]; simp) (by simp; omega)
          have HR2 : Hid (∃ U V, X2 = U ++ V ∧ U.length = p - i ∧ (swp dk (p + 1) p).toList = A ++ X1 ++ U ++ y :: V ++ B) := Lib.hid (by rw [T1]; exact HR.out)
          have ea : ((p : Int)).toNat = p := by omega
          have pa : (0 : Int) ≤ (p : Int) := by omega
          have ba : (p : Int) < (sz : Int) := by omega
          have ra : IntKind.i64.wrap ((p : Int)) = (p : Int) := by rw [IntKind.wrap_i64]; omega
          have ec : ((p : Int) + 1).toNat = p + 1 := by omega
          have pc : (0 : Int) ≤ (p : Int) + 1 := by omega
          have bc : (p : Int) + 1 < (sz : Int) := by omega
          have rc : IntKind.i64.wrap ((p : Int) + 1) = (p : Int) + 1 := by rw [IntKind.wrap_i64]; omega
          have S2 : Aside (SWK enc k w0 blk off (swp dk (p + 1) p) ((wr.drew.setCells blk (off + (p + 1) * k) (enc u)).setCells blk (off + p * k) (enc y))) := by
            have := S1.out.swapped R (p + 1) p i2 i1
            rwa [e1, e2] at this
          have la := S1.out.ld1 R hds P p i1
          have lb := S1.out.ld1 R hds P (p + 1) i2
          have sa := S1.out.st1 R hds P (p + 1) i2 u
          have sb := S1.out.st2 R hds P (p + 1) p i2 i1 u y
          have na : (enc u).length = k := R.hk _
          have nb : (enc y).length = k := R.hk _
          rw [e1] at la
          rw [e2] at lb
          generalize enc u = cI at S2 la sa sb na
          generalize enc y = cJ at S2 lb sb nb
          clear S1 HL q0 q1 T1 e1 e2 i1 i2 HR
          go_wp2_with fail
          go_big_region_o
          clear la lb sa sb
          generalize (wr.drew.setCells blk (off + (p + 1) * k) cI).setCells blk (off + p * k) cJ = w2 at S2 ⊢
          go_wp2
          go_roundg (p - i)
          case measure => omega
          case rel => exact ⟨p, _, by go_num, by omega, by omega, Nat.le_refl _, by rw [size_swp]; exact hds, S2, HR2⟩
        · have x2 : ¬ (i : Int) < (q : Int) := by omega
          go_wp2
          (try simp only [Exit.inBlock, Exit.then])
          refine bodyPost_ret (results_none rfl _ _ _) rfl ?_
          obtain ⟨U, V, e1, e2, e3⟩ := HL.out
          obtain ⟨h1, h2, h3⟩ := HE.out
          have : U = [] := List.eq_nil_of_length_eq_zero (by omega)
          subst this
          refine ⟨rfl, dk, ?_, S1.out⟩
          rw [e3, h3, e1]
          simp

end Go.Proofs.YticiofkiffgclaaGreat

namespace Go.Proofs.YticiofkiffgclaaGreat
open Go.Shelf Go.RowKit Go.Lib Go.Sort

section
variable {α : Type} [Inhabited α]

theorem sym_split {c : α → α → Bool} (T : Tot c) {A X Y B : List α} {d : Array α} (hd : d.toList = A ++ X ++ Y ++ B) (hX : Srt c X) (hY : Srt c Y) {a m b mid st : Nat} (ha : a = A.length) (hm : m = a + X.length) (hb : b = m + Y.length)
    (h1 : a ≤ st) (h2 : st ≤ m) (h3 : st ≤ mid) (h4 : mid + m ≤ b + st)
    (H1 : a < st → mid + m - st < b → c d[st - 1]! d[mid + m - st]! = true) (H2 : st < m → st < mid → c d[st]! d[mid + m - 1 - st]! = false) :
    ∃ P1 X1 Y1 S1, X = P1 ++ X1 ∧ Y = Y1 ++ S1 ∧ P1.length = st - a ∧ X1.length = m - st ∧ Y1.length = mid - st ∧ S1.length = b + st - (mid + m) ∧ (∀ x ∈ X1, ∀ y ∈ Y1, c x y = false) ∧ ∀ p ∈ P1, ∀ s ∈ S1, c p s = true := by
  obtain ⟨P1, X1, eX, lP, lX⟩ := list_cut X (st - a) (by omega)
  obtain ⟨Y1, S1, eY, lY, lS⟩ := list_cut Y (mid - st) (by omega)
  refine ⟨P1, X1, Y1, S1, eX, eY, lP, by omega, lY, by omega, ?_, ?_⟩
  · intro x hx y hy
    have hx0 : 0 < X1.length := List.length_pos_of_mem hx
    have hy0 : 0 < Y1.length := List.length_pos_of_mem hy
    have k := H2 (by omega) (by omega)
    cases X1 with
    | nil => simp at hx0
    | cons u X1 =>
      rcases List.eq_nil_or_concat Y1 with rfl | ⟨Y2, v, rfl⟩
      · simp at hy0
      · obtain ⟨_, e1⟩ := at_list (d := d) (P := A ++ P1) (R := X1 ++ Y ++ B) (x := u) (i := st) (by rw [hd, eX]; simp) (by simp; omega)
        obtain ⟨_, e2⟩ := at_list (d := d) (P := A ++ X ++ Y2) (R := S1 ++ B) (x := v) (i := mid + m - 1 - st) (by rw [hd, eY]; simp) (by simp at lY ⊢; omega)
        rw [e1, e2] at k
        rw [eX] at hX
        rw [eY] at hY
        have s1 := (List.pairwise_append.1 hX).2.1
        have s2 := (List.pairwise_append.1 hY).1
        have t1 := (srt_parts T (P := []) (y := u) (R := X1) s1).2 x hx
        have t2 := (srt_parts T (P := Y2) (y := v) (R := []) (by simpa [Srt] using s2)).1 y (by simpa using hy)
        cases hxy : c x y with
        | false => rfl
        | true => rw [T.trans u x v t1 (T.trans x y v hxy t2)] at k; simp at k
  · intro p hp s hs
    have hp0 : 0 < P1.length := List.length_pos_of_mem hp
    have hs0 : 0 < S1.length := List.length_pos_of_mem hs
    have k := H1 (by omega) (by omega)
    cases S1 with
    | nil => simp at hs0
    | cons v S1 =>
      rcases List.eq_nil_or_concat P1 with rfl | ⟨P2, u, rfl⟩
      · simp at hp0
      · obtain ⟨_, e1⟩ := at_list (d := d) (P := A ++ P2) (R := X1 ++ Y ++ B) (x := u) (i := st - 1) (by rw [hd, eX]; simp) (by simp at lP ⊢; omega)
        obtain ⟨_, e2⟩ := at_list (d := d) (P := A ++ X ++ Y1) (R := S1 ++ B) (x := v) (i := mid + m - st) (by rw [hd, eY]; simp) (by simp; omega)
        rw [e1, e2] at k
        rw [eX] at hX
        rw [eY] at hY
        have s1 := (List.pairwise_append.1 hX).1
        have s2 := (List.pairwise_append.1 hY).2.1
        have t1 := (srt_parts T (P := P2) (y := u) (R := []) (by simpa [Srt] using s1)).1 p (by simpa using hp)
        have t2 := (srt_parts T (P := []) (y := v) (R := S1) s2).2 s hs
        exact T.trans p u s t1 (T.trans u v s k t2)
end

end Go.Proofs.YticiofkiffgclaaGreat
