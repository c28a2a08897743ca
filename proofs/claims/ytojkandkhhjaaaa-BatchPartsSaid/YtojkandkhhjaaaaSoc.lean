/-
  The library's stable sort: rotateCmpFunc: two neighbouring runs change places.
-/
import Derived.Test.YtojkandkhhjaaaaSob
namespace Go.Proofs.Ytojkandkhhjaaaa
open Go.Shelf Go.RowKit Go.Lib Go.Sort

variable {P : Program} {α : Type} [Inhabited α] {k : Nat} {enc : α → List Value} {w0 : World} {blk off : Nat} {d0 : Array α}

theorem list_cut {β : Type} (l : List β) (n : Nat) (h : n ≤ l.length) : ∃ U V, l = U ++ V ∧ U.length = n ∧ V.length = l.length - n :=
  ⟨l.take n, l.drop n, (List.take_append_drop n l).symm, by rw [List.length_take]; omega, by rw [List.length_drop]⟩

set_option maxHeartbeats 4000000 in
set_option maxRecDepth 1000000 in
theorem rotate_any (L : SL P k) (R : RowK enc k w0 blk off d0) (g : Nat) (cb : Array Value) (cap : Nat) (A X Y B : List α) (d : Array α) (w : World) (hd : d.toList = A ++ X ++ Y ++ B) (hs : d.size = d0.size) (S : SWK enc k w0 blk off d w) (hsz : d.size < 4611686018427387904)
    (sz a m b : Nat) (hz : sz = d.size) (ha : a = A.length) (hm : m = A.length + X.length) (hb : b = A.length + X.length + Y.length) (hX : 0 < X.length) (hY : 0 < Y.length) :
    Calls P 54 #[.slice (some ⟨blk, off, none⟩) sz cap, .int .i64 a, .int .i64 m, .int .i64 b, .func (.func g) #[] cb] w fun e w' => e = .returned (.tuple #[]) ∧ ∃ d' : Array α, d'.toList = A ++ Y ++ X ++ B ∧ SWK enc k w0 blk off d' w' := by
  have mixed := L.mixed; have t0 := L.t0; have a0 := L.a0; have z0 := L.z0; have v0 := L.v0; have t3 := L.t3; have a3 := L.a3; have z3 := L.z3; have v3 := L.v3; have t4 := L.t4; have a4 := L.a4; have z4 := L.z4; have v4 := L.v4; have t6 := L.t6; have a6 := L.a6; have z6 := L.z6; have v6 := L.v6; have t7 := L.t7; have a7 := L.a7; have z7 := L.z7; have v7 := L.v7; have aE := L.aE; have zE := L.zE
  have ew : ∀ args w, (callFunc 55 args).run P w = .ok (.enter 55 args) w := enters_of L.fw (by kernel_rfl) rfl
  have S0 : Aside (SWK enc k w0 blk off d w) := S
  have HD : Hid (d.toList = A ++ X ++ Y ++ B) := hd
  have hfit : b ≤ sz ∧ a < m ∧ m < b ∧ sz = d0.size := by
    have := congrArg List.length hd
    simp at this
    omega
  have HN : Hid (a = A.length ∧ m = A.length + X.length ∧ b = A.length + X.length + Y.length) := ⟨ha, hm, hb⟩
  have hszi : sz < 4611686018427387904 := by omega
  have HS : Hid (d.size = d0.size) := hs
  clear S hd ha hm hb hX hY hz hs hsz
  obtain ⟨hf1, hf2, hf3, hf4⟩ := hfit
  have HF : Hid (sz = d0.size) := hf4
  clear hf4
  go_enter L.fr, Try.ntmps54
  go_wp2
  go_loopg [10, 11] (b - a) (fun kx s10 s11 wr => ∃ (i j : Nat) (dk : Array α), s10 = .int .i64 i ∧ s11 = .int .i64 j ∧ 0 < i ∧ 0 < j ∧ i ≤ m ∧ m + j ≤ sz ∧ i + j ≤ kx ∧ Aside (SWK enc k w0 blk off dk wr) ∧ Hid (dk.size = d0.size ∧ ∃ A1 X1 Y1 B1, X1.length = i ∧ Y1.length = j ∧ A1.length + i = m ∧ dk.toList = A1 ++ X1 ++ Y1 ++ B1 ∧ A ++ Y ++ X ++ B = A1 ++ Y1 ++ X1 ++ B1))
  case atStart =>
    obtain ⟨h1, h2, h3⟩ := HN.out
    exact ⟨m - a, b - m, d, by go_num, by go_num, by omega, by omega, by omega, by omega, by omega, S0, HS.out, A, X, Y, B, by omega, by omega, by omega, HD.out, rfl⟩
  case round =>
    clear S0
    obtain ⟨i, j, dk, rfl, rfl, hi, hj, him, hjm, hkx, S1, HL⟩ := hrel
    obtain ⟨hds, A1, X1, Y1, B1, lx, ly, la, e1, e2⟩ := HL.out
    have xm : (m : Int) - (i : Int) = ((m - i : Nat) : Int) := by omega
    have xs : dk.size < 4611686018427387904 := by have := HF.out; omega
    have xz : sz = dk.size := by have := HF.out; omega
    by_cases hij : i = j
    · subst hij
      have hc := swapRange_any L R g cb cap A1 X1 [] Y1 B1 dk wr (by rw [e1]; simp) (by omega) hds S1.out xs sz (m - i) m i xz (by omega) (by simp; omega) (by omega)
      have HE : Hid (A ++ Y ++ X ++ B = A1 ++ Y1 ++ [] ++ X1 ++ B1) := Lib.hid (by rw [e2]; simp)
      have HC := Lib.hid hc
      clear hc e1 e2 lx ly la hds HL xs xz S1
      go_wp2_with (go_at_fn 55; refine HC.out.mono ?_; rintro e w' ⟨rfl, d', hd', S'⟩)
      go_end0
      exact ⟨rfl, d', by rw [hd', HE.out], S'⟩
    · have x1 : ¬ (i : Int) = (j : Int) := by omega
      by_cases hgt : j < i
      · have x2 : (j : Int) < (i : Int) := by omega
        obtain ⟨U, V, eU, lU, lV⟩ := list_cut X1 j (by omega)
        have hc := swapRange_any L R g cb cap A1 U V Y1 B1 dk wr (by rw [e1, eU]; simp) (by omega) hds S1.out xs sz (m - i) m j xz (by omega) (by omega) (by omega)
        have HE : Hid (∀ d' : Array α, d'.toList = A1 ++ Y1 ++ V ++ U ++ B1 → d'.size = d0.size ∧ ∃ A1 X1 Y1 B1, X1.length = i - j ∧ Y1.length = j ∧ A1.length + (i - j) = m ∧ d'.toList = A1 ++ X1 ++ Y1 ++ B1 ∧ A ++ Y ++ X ++ B = A1 ++ Y1 ++ X1 ++ B1) := by
          intro d' h
          refine ⟨?_, A1 ++ Y1, V, U, B1, by omega, lU, by simp; omega, h, by rw [e2, eU]; simp⟩
          rw [← hds, ← Array.length_toList, ← Array.length_toList, h, e1, eU]
          simp; omega
        have HC := Lib.hid hc
        clear hc e1 e2 lx ly la hds HL xs xz S1 eU lU lV
        go_wp2_with (go_at_fn 55; refine HC.out.mono ?_; rintro e w' ⟨rfl, d', hd', S'⟩)
        have G := HE.out d' hd'
        have HG := Lib.hid G
        have SA : Aside (SWK enc k w0 blk off d' w') := S'
        clear hd' S' G
        go_wp2
        go_roundg (i - j + j)
        case measure => omega
        case rel => exact ⟨i - j, j, d', by go_num, rfl, by omega, hj, by omega, hjm, Nat.le_refl _, SA, HG⟩
      · have x2 : ¬ (j : Int) < (i : Int) := by omega
        have xj : (m : Int) + (j : Int) - (i : Int) = ((m + j - i : Nat) : Int) := by omega
        obtain ⟨U, V, eU, lU, lV⟩ := list_cut Y1 (j - i) (by omega)
        have hc := swapRange_any L R g cb cap A1 X1 U V B1 dk wr (by rw [e1, eU]; simp) (by omega) hds S1.out xs sz (m - i) (m + j - i) i xz (by omega) (by omega) (by omega)
        have HE : Hid (∀ d' : Array α, d'.toList = A1 ++ V ++ U ++ X1 ++ B1 → d'.size = d0.size ∧ ∃ A1 X1 Y1 B1, X1.length = i ∧ Y1.length = j - i ∧ A1.length + i = m ∧ d'.toList = A1 ++ X1 ++ Y1 ++ B1 ∧ A ++ Y ++ X ++ B = A1 ++ Y1 ++ X1 ++ B1) := by
          intro d' h
          refine ⟨?_, A1, V, U, X1 ++ B1, by omega, lU, la, by rw [h]; simp, by rw [e2, eU]; simp⟩
          rw [← hds, ← Array.length_toList, ← Array.length_toList, h, e1, eU]
          simp; omega
        have HC := Lib.hid hc
        clear hc e1 e2 lx ly la hds HL xs xz S1 eU lU lV
        go_wp2_with (go_at_fn 55; refine HC.out.mono ?_; rintro e w' ⟨rfl, d', hd', S'⟩)
        have G := HE.out d' hd'
        have HG := Lib.hid G
        have SA : Aside (SWK enc k w0 blk off d' w') := S'
        clear hd' S' G
        go_wp2
        go_roundg (i + (j - i))
        case measure => omega
        case rel => exact ⟨i, j - i, d', rfl, by go_num, hi, by omega, him, by omega, Nat.le_refl _, SA, HG⟩

end Go.Proofs.Ytojkandkhhjaaaa
