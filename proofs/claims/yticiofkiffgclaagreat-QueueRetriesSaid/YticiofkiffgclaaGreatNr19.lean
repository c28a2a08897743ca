/-
  Sob, Soc in one text.
-/
import Derived.Test.YticiofkiffgclaaGreatNr18
import Derived.Test.YticiofkiffgclaaGreatProg
import Derived.Shelf.SlSortCmp.KitK
import Derived.Sort.WalkB2
import Derived.Sort.WalkB12
import Derived.Deep.LoopGhost
import Derived.Lib.Hide
namespace Go.Proofs.YticiofkiffgclaaGreat
open Go.Shelf Go.RowKit Go.Lib Go.Sort

structure SL (P : Program) (k : Nat) : Prop where
  mixed : P.follows .mixedOrders = true
  fs : P.funcs[145]? = some Tryz.f145
  fm : P.funcs[186]? = some Tryz.f186
  fr : P.funcs[212]? = some Tryz.f212
  fw : P.funcs[225]? = some Tryz.f225
  eI : ∀ args w, (callFunc 185 args).run P w = .ok (.enter 185 args) w
  t0 : P.underlying 0 = some (TypeDesc.tuple #[])
  a0 : ∀ w, (isAgg 0).run P w = .ok false w
  z0 : ∀ w, (Go.sizeOf 0).run P w = .ok 1 w
  v0 : ∀ w, (zeroValue 0).run P w = .ok (Value.tuple #[]) w
  t3 : P.underlying 3 = some (TypeDesc.int IntKind.i64)
  a3 : ∀ w, (isAgg 3).run P w = .ok false w
  z3 : ∀ w, (Go.sizeOf 3).run P w = .ok 1 w
  v3 : ∀ w, (zeroValue 3).run P w = .ok (Value.int IntKind.i64 0) w
  t4 : P.underlying 4 = some (TypeDesc.bool)
  a4 : ∀ w, (isAgg 4).run P w = .ok false w
  z4 : ∀ w, (Go.sizeOf 4).run P w = .ok 1 w
  v4 : ∀ w, (zeroValue 4).run P w = .ok (Value.bool false) w
  t5 : P.underlying 217 = some (TypeDesc.int IntKind.u64)
  a5 : ∀ w, (isAgg 217).run P w = .ok false w
  z5 : ∀ w, (Go.sizeOf 217).run P w = .ok 1 w
  v5 : ∀ w, (zeroValue 217).run P w = .ok (Value.int IntKind.u64 0) w
  t6 : P.underlying 57 = some (TypeDesc.slice 50)
  a6 : ∀ w, (isAgg 57).run P w = .ok false w
  z6 : ∀ w, (Go.sizeOf 57).run P w = .ok 1 w
  v6 : ∀ w, (zeroValue 57).run P w = .ok (Value.slice none 0 0) w
  t7 : P.underlying 135 = some (TypeDesc.func #[50, 50] #[3] false)
  a7 : ∀ w, (isAgg 135).run P w = .ok false w
  z7 : ∀ w, (Go.sizeOf 135).run P w = .ok 1 w
  v7 : ∀ w, (zeroValue 135).run P w = .ok (Value.nilFunc) w
  aE : ∀ w, (isAgg 50).run P w = .ok true w
  zE : ∀ w, (Go.sizeOf 50).run P w = .ok k w

variable {P : Program} {α : Type} [Inhabited α] {k : Nat} {enc : α → List Value} {w0 : World} {blk off : Nat} {d0 : Array α}

set_option maxHeartbeats 4000000 in
set_option maxRecDepth 1000000 in
theorem swapRange_any (L : SL P k) (R : RowK enc k w0 blk off d0) (g : Nat) (cb : Array Value) (cap : Nat) (A X M Y B : List α) (d : Array α) (w : World) (hd : d.toList = A ++ X ++ M ++ Y ++ B) (hxy : Y.length = X.length) (hs : d.size = d0.size) (S : SWK enc k w0 blk off d w) (hsz : d.size < 4611686018427387904)
    (sz a b n : Nat) (hz : sz = d.size) (ha : a = A.length) (hb : b = A.length + X.length + M.length) (hn : n = X.length) :
    Calls P 225 #[.slice (some ⟨blk, off, none⟩) sz cap, .int .i64 a, .int .i64 b, .int .i64 n, .func (.func g) #[] cb] w fun e w' => e = .returned (.tuple #[]) ∧ ∃ d' : Array α, d'.toList = A ++ Y ++ M ++ X ++ B ∧ SWK enc k w0 blk off d' w' := by
  have mixed := L.mixed; have t0 := L.t0; have a0 := L.a0; have z0 := L.z0; have v0 := L.v0; have t3 := L.t3; have a3 := L.a3; have z3 := L.z3; have v3 := L.v3; have t4 := L.t4; have a4 := L.a4; have z4 := L.z4; have v4 := L.v4; have t6 := L.t6; have a6 := L.a6; have z6 := L.z6; have v6 := L.v6; have t7 := L.t7; have a7 := L.a7; have z7 := L.z7; have v7 := L.v7; have aE := L.aE; have zE := L.zE
  have S0 : Aside (SWK enc k w0 blk off d w) := S
  have HD : Hid (d.toList = A ++ X ++ M ++ Y ++ B) := hd
  have HN : Hid (a = A.length ∧ b = A.length + X.length + M.length ∧ n = X.length ∧ Y.length = X.length ∧ sz = d0.size) := ⟨ha, hb, hn, hxy, by omega⟩
  have hfit : b + n ≤ sz ∧ a + n ≤ b := by
    have := congrArg List.length hd
    simp at this
    omega
  have hszi : sz < 4611686018427387904 := by omega
  clear S hd ha hb hn hxy hz hsz
  obtain ⟨hf1, hf2⟩ := hfit
  go_enter L.fw, Tryz.ntmps225
  go_wp2
  go_loopg [10] n (fun kx s10 wr => ∃ (i : Nat) (dk : Array α), s10 = .int .i64 i ∧ i ≤ n ∧ n - i ≤ kx ∧ dk.size = d0.size ∧ Aside (SWK enc k w0 blk off dk wr) ∧ Hid (∃ X1 X2 Y1 Y2, X = X1 ++ X2 ∧ Y = Y1 ++ Y2 ∧ X1.length = i ∧ Y1.length = i ∧ dk.toList = A ++ Y1 ++ X2 ++ M ++ X1 ++ Y2 ++ B))
  case atStart => exact ⟨0, d, rfl, by omega, by omega, hs, S0, [], X, [], Y, rfl, rfl, rfl, rfl, by rw [HD.out]; simp⟩
  case round =>
    clear S0
    obtain ⟨i, dk, rfl, hi, hkx, hds, S1, HL⟩ := hrel
    by_cases hlt : i < n
    · have hlz : (i : Int) < (n : Int) := by omega
      obtain ⟨x, y, V1, V2, V3, q0, q1, q2, X1, X2, Y1, Y2, hX, hY, l1, l2⟩ : ∃ x y V1 V2 V3, dk.toList = V1 ++ x :: (V2 ++ y :: V3) ∧ a + i = V1.length ∧ b + i = V1.length + 1 + V2.length ∧
          ∃ X1 X2 Y1 Y2, X = X1 ++ x :: X2 ∧ Y = Y1 ++ y :: Y2 ∧ X1.length = i ∧ Y1.length = i ∧ V1 ++ y :: (V2 ++ x :: V3) = A ++ (Y1 ++ [y]) ++ X2 ++ M ++ (X1 ++ [x]) ++ Y2 ++ B := by
        obtain ⟨h1, h2, h3, h4, _⟩ := HN.out
        obtain ⟨X1, X2, Y1, Y2, hX, hY, l1, l2, e⟩ := HL.out
        cases X2 with
        | nil => rw [hX] at h3; simp at h3; omega
        | cons x X2 =>
          cases Y2 with
          | nil => rw [hY] at h4; simp at h4; omega
          | cons y Y2 =>
            refine ⟨x, y, A ++ Y1, X2 ++ M ++ X1, Y2 ++ B, by rw [e]; simp, by simp; omega, ?_, X1, X2, Y1, Y2, hX, hY, l1, l2, by simp⟩
            rw [h2, hX]; simp; omega
      have T1 := swp_list (i := a + i) (j := b + i) q0 q1 q2
      obtain ⟨i1, e1⟩ := at_list q0 q1
      obtain ⟨i2, e2⟩ := at_list (P := V1 ++ x :: V2) (R := V3) (x := y) (i := b + i) (by rw [q0]; simp) (by simp; omega)
      have ea : ((a : Int) + (i : Int)).toNat = a + i := by omega
      have pa : (0 : Int) ≤ (a : Int) + (i : Int) := by omega
      have ba : (a : Int) + (i : Int) < (sz : Int) := by omega
      have ra : IntKind.i64.wrap ((a : Int) + (i : Int)) = (a : Int) + (i : Int) := by rw [IntKind.wrap_i64]; omega
      have ec : ((b : Int) + (i : Int)).toNat = b + i := by omega
      have pc : (0 : Int) ≤ (b : Int) + (i : Int) := by omega
      have bc : (b : Int) + (i : Int) < (sz : Int) := by omega
      have rc : IntKind.i64.wrap ((b : Int) + (i : Int)) = (b : Int) + (i : Int) := by rw [IntKind.wrap_i64]; omega
      have S2 : Aside (SWK enc k w0 blk off (swp dk (a + i) (b + i)) ((wr.drew.setCells blk (off + (a + i) * k) (enc y)).setCells blk (off + (b + i) * k) (enc x))) := by
        have := S1.out.swapped R (a + i) (b + i) i1 i2
        rwa [e1, e2] at this
      have la := S1.out.ld1 R hds P (a + i) i1
      have lb := S1.out.ld1 R hds P (b + i) i2
      have sa := S1.out.st1 R hds P (a + i) i1 y
      have sb := S1.out.st2 R hds P (a + i) (b + i) i1 i2 y x
      have na : (enc x).length = k := R.hk _
      have nb : (enc y).length = k := R.hk _
      rw [e1] at la
      rw [e2] at lb
      generalize enc x = cI at S2 la sb na
      generalize enc y = cJ at S2 lb sa sb nb
      have HR : Hid (∃ X1 X2 Y1 Y2, X = X1 ++ X2 ∧ Y = Y1 ++ Y2 ∧ X1.length = i + 1 ∧ Y1.length = i + 1 ∧ (swp dk (a + i) (b + i)).toList = A ++ Y1 ++ X2 ++ M ++ X1 ++ Y2 ++ B) :=
        ⟨X1 ++ [x], X2, Y1 ++ [y], Y2, by rw [hX]; simp, by rw [hY]; simp, by simp [l1], by simp [l2.1], by rw [T1, l2.2]⟩
      clear S1 HL q0 q1 q2 hX hY l1 l2 T1 e1 e2 i1 i2
      go_wp2_with fail
      go_big_region_o
      clear la lb sa sb
      generalize (wr.drew.setCells blk (off + (a + i) * k) cJ).setCells blk (off + (b + i) * k) cI = w2 at S2 ⊢
      go_wp2
      go_roundg (n - (i + 1))
      case measure => omega
      case rel => exact ⟨i + 1, _, by go_num, by omega, Nat.le_refl _, by rw [size_swp]; exact hds, S2, HR⟩
    · have hlz : ¬ (i : Int) < (n : Int) := by omega
      obtain rfl : i = n := by omega
      go_wp2
      go_end0
      obtain ⟨h1, h2, h3, h4, _⟩ := HN.out
      obtain ⟨X1, X2, Y1, Y2, hX, hY, l1, l2, e⟩ := HL.out
      have : X2 = [] := List.eq_nil_of_length_eq_zero (by rw [hX] at h3; simp at h3; omega)
      subst this
      have : Y2 = [] := List.eq_nil_of_length_eq_zero (by rw [hY] at h4; simp at h4; omega)
      subst this
      refine ⟨rfl, dk, ?_, S1.out⟩
      rw [e, hX, hY]
      simp

end Go.Proofs.YticiofkiffgclaaGreat

namespace Go.Proofs.YticiofkiffgclaaGreat
open Go.Shelf Go.RowKit Go.Lib Go.Sort

variable {P : Program} {α : Type} [Inhabited α] {k : Nat} {enc : α → List Value} {w0 : World} {blk off : Nat} {d0 : Array α}

theorem list_cut {β : Type} (l : List β) (n : Nat) (h : n ≤ l.length) : ∃ U V, l = U ++ V ∧ U.length = n ∧ V.length = l.length - n :=
  ⟨l.take n, l.drop n, (List.take_append_drop n l).symm, by rw [List.length_take]; omega, by rw [List.length_drop]⟩

set_option maxHeartbeats 4000000 in
set_option maxRecDepth 1000000 in
theorem rotate_any (L : SL P k) (R : RowK enc k w0 blk off d0) (g : Nat) (cb : Array Value) (cap : Nat) (A X Y B : List α) (d : Array α) (w : World) (hd : d.toList = A ++ X ++ Y ++ B) (hs : d.size = d0.size) (S : SWK enc k w0 blk off d w) (hsz : d.size < 4611686018427387904)
    (sz a m b : Nat) (hz : sz = d.size) (ha : a = A.length) (hm : m = A.length + X.length) (hb : b = A.length + X.length + Y.length) (hX : 0 < X.length) (hY : 0 < Y.length) :
    Calls P 212 #[.slice (some ⟨blk, off, none⟩) sz cap, .int .i64 a, .int .i64 m, .int .i64 b, .func (.func g) #[] cb] w fun e w' => e = .returned (.tuple #[]) ∧ ∃ d' : Array α, d'.toList = A ++ Y ++ X ++ B ∧ SWK enc k w0 blk off d' w' := by
  have mixed := L.mixed; have t0 := L.t0; have a0 := L.a0; have z0 := L.z0; have v0 := L.v0; have t3 := L.t3; have a3 := L.a3; have z3 := L.z3; have v3 := L.v3; have t4 := L.t4; have a4 := L.a4; have z4 := L.z4; have v4 := L.v4; have t6 := L.t6; have a6 := L.a6; have z6 := L.z6; have v6 := L.v6; have t7 := L.t7; have a7 := L.a7; have z7 := L.z7; have v7 := L.v7; have aE := L.aE; have zE := L.zE
  have ew : ∀ args w, (callFunc 225 args).run P w = .ok (.enter 225 args) w := enters_of L.fw (by kernel_rfl) rfl
  have S0 : Aside (SWK enc k w0 blk off d w) := S
  have HD : Hid (d.toList = A ++ X ++ Y ++ B) := hd
  have hfit : b ≤ sz ∧ a < m ∧ m < b ∧ sz = d0.size := by
    have := congrArg List.length hd
    simp at this
    omega
  have HN : Hid (a = A.length ∧ m = A.length + X.length ∧ b = A.length + X.length + Y.length) := ⟨ha, hm, hb⟩
  have hszi : sz < 4611686018427387904 := by omega
  have HS : Hid (d.size = d0.size) := hs
  clear S hd ha hm hb hX hY hz hs hsz
  obtain ⟨hf1, hf2, hf3, hf4⟩ := hfit
  have HF : Hid (sz = d0.size) := hf4
  clear hf4
  go_enter L.fr, Tryz.ntmps212
  go_wp2
  go_loopg [10, 11] (b - a) (fun kx s10 s11 wr => ∃ (i j : Nat) (dk : Array α), s10 = .int .i64 i ∧ s11 = .int .i64 j ∧ 0 < i ∧ 0 < j ∧ i ≤ m ∧ m + j ≤ sz ∧ i + j ≤ kx ∧ Aside (SWK enc k w0 blk off dk wr) ∧ Hid (dk.size = d0.size ∧ ∃ A1 X1 Y1 B1, X1.length = i ∧ Y1.length = j ∧ A1.length + i = m ∧ dk.toList = A1 ++ X1 ++ Y1 ++ B1 ∧ A ++ Y ++ X ++ B = A1 ++ Y1 ++ X1 ++ B1))
  case atStart =>
    obtain ⟨h1, h2, h3⟩ := HN.out
    exact ⟨m - a, b - m, d, by go_num, by go_num, by omega, by omega, by omega, by omega, by omega, S0, HS.out, A, X, Y, B, by omega, by omega, by omega, HD.out, rfl⟩
  case round =>
    clear S0
    obtain ⟨i, j, dk, rfl, rfl, hi, hj, him, hjm, hkx, S1, HL⟩ := hrel
    obtain ⟨hds, A1, X1, Y1, B1, lx, ly, la, e1, e2⟩ := HL.out
    have xm : (m : Int) - (i : Int) = ((m - i : Nat) : Int) := by omega
    have xs : dk.size < 4611686018427387904 := by have := HF.out; omega
    have xz : sz = dk.size := by have := HF.out; omega
    by_cases hij : i = j
    · subst hij
      have hc := swapRange_any L R g cb cap A1 X1 [] Y1 B1 dk wr (by rw [e1]; simp) (by omega) hds S1.out xs sz (m - i) m i xz (by omega) (by simp; omega) (by omega)
      have HE : Hid (A ++ Y ++ X ++ B = A1 ++ Y1 ++ [] ++ X1 ++ B1) := Lib.hid (by rw [e2]; simp)
      have HC := Lib.hid hc
      clear hc e1 e2 lx ly la hds HL xs xz S1
      go_wp2_with (go_at_fn 225; refine HC.out.mono ?_; rintro e w' ⟨rfl, d', hd', S'⟩)
      go_end0
      exact ⟨rfl, d', by rw [hd', HE.out], S'⟩
    · have x1 : ¬ (i : Int) = (j : Int) := by omega
      by_cases hgt : j < i
      · have x2 : (j : Int) < (i : Int) := by omega
        obtain ⟨U, V, eU, lU, lV⟩ := list_cut X1 j (by omega)
        have hc := swapRange_any L R g cb cap A1 U V Y1 B1 dk wr (by rw [e1, eU]; simp) (by omega) hds S1.out xs sz (m - i) m j xz (by omega) (by omega) (by omega)
        have HE : Hid (∀ d' : Array α, d'.toList = A1 ++ Y1 ++ V ++ U ++ B1 → d'.size = d0.size ∧ ∃ A1 X1 Y1 B1, X1.length = i - j ∧ Y1.length = j ∧ A1.length + (i - j) = m ∧ d'.toList = A1 ++ X1 ++ Y1 ++ B1 ∧ A ++ Y ++ X ++ B = A1 ++ Y1 ++ X1 ++ B1) := by
          intro d' h
          refine ⟨?_, A1 ++ Y1, V, U, B1, by omega, lU, by simp; omega, h, by rw [e2, eU]; simp⟩
          rw [← hds, ← Array.length_toList, ← Array.length_toList, h, e1, eU]
          simp; omega
        have HC := Lib.hid hc
        clear hc e1 e2 lx ly la hds HL xs xz S1 eU lU lV
        go_wp2_with (go_at_fn 225; refine HC.out.mono ?_; rintro e w' ⟨rfl, d', hd', S'⟩)
        have G := HE.out d' hd'
        have HG := Lib.hid G
        have SA : Aside (SWK enc k w0 blk off d' w') := S'
        clear hd' S' G
        go_wp2
        go_roundg (i - j + j)
        case measure => omega
        case rel => exact ⟨i - j, j, d', by go_num, rfl, by omega, hj, by omega, hjm, Nat.le_refl _, SA, HG⟩
      · have x2 : ¬ (j : Int) < (i : Int) := by omega
        have xj : (m : Int) + (j : Int) - (i : Int) = ((m + j - i : Nat) : Int) := by omega
        obtain ⟨U, V, eU, lU, lV⟩ := list_cut Y1 (j - i) (by omega)
        have hc := swapRange_any L R g cb cap A1 X1 U V B1 dk wr (by rw [e1, eU]; simp) (by omega) hds S1.out xs sz (m - i) (m + j - i) i xz (by omega) (by omega) (by omega)
        have HE : Hid (∀ d' : Array α, d'.toList = A1 ++ V ++ U ++ X1 ++ B1 → d'.size = d0.size ∧ ∃ A1 X1 Y1 B1, X1.length = i ∧ Y1.length = j - i ∧ A1.length + i = m ∧ d'.toList = A1 ++ X1 ++ Y1 ++ B1 ∧ A ++ Y ++ X ++ B = A1 ++ Y1 ++ X1 ++ B1) := by
          intro d' h
          refine ⟨?_, A1, V, U, X1 ++ B1, by omega, lU, la, by rw [h]; simp, by rw [e2, eU]; simp⟩
          rw [← hds, ← Array.length_toList, ← Array.length_toList, h, e1, eU]
          simp; omega
        have HC := Lib.hid hc
        clear hc e1 e2 lx ly la hds HL xs xz S1 eU lU lV
        go_wp2_with (go_at_fn 225; refine HC.out.mono ?_; rintro e w' ⟨rfl, d', hd', S'⟩)
        have G := HE.out d' hd'
        have HG := Lib.hid G
        have SA : Aside (SWK enc k w0 blk off d' w') := S'
        clear hd' S' G
        go_wp2
        go_roundg (i + (j - i))
        case measure => omega
        case rel => exact ⟨i, j - i, d', rfl, by go_num, hi, by omega, him, by omega, Nat.le_refl _, SA, HG⟩

end Go.Proofs.YticiofkiffgclaaGreat
