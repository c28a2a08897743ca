/-
  Soc, Sod in one text.
-/
import Derived.Test.YticiofkiffgclaaGreatQo8
import Derived.WalkArith
namespace Go.Proofs.YticiofkiffgclaaGreat
open Go.Shelf Go.RowKit Go.Lib Go.Sort

variable {P : Program} {α : Type} [Inhabited α] {k : Nat} {enc : α → List Value} {w0 : World} {blk off : Nat} {d0 : Array α}

theorem list_cut {β : Type} (l : List β) (n : Nat) (h : n ≤ l.length) : ∃ U V, l = U ++ V ∧ U.length = n ∧ V.length = l.length - n :=
  ⟨l.take n, l.drop n, (List.take_append_drop n l).symm, by rw [List.length_take]; omega, by rw [List.length_drop]⟩

set_option maxHeartbeats 4000000 in
set_option maxRecDepth 1000000 in
theorem rotate_any (L : SL P k) (R : RowK enc k w0 blk off d0) (g : Nat) (cb : Array Value) (cap : Nat) (A X Y B : List α) (d : Array α) (w : World) (hd : d.toList = A ++ X ++ Y ++ B) (hs : d.size = d0.size) (S : SWK enc k w0 blk off d w) (hsz : d.size < 4611686018427387904)
    (sz a m b : Nat) (hz : sz = d.size) (ha : a = A.length) (hm : m = A.length + X.length) (hb : b = A.length + X.length + Y.length) (hX : 0 < X.length) (hY : 0 < Y.length) :
    Calls P 212 #[.slice (some ⟨blk, off, none⟩) sz cap, .int .i64 a, .int .i64 m, .int .i64 b, .func (.func g) #[] cb] w fun e w' => e = .returned (.tuple #[]) ∧ ∃ d' : Array α, d'.toList = A ++ Y ++ X ++ B ∧ SWK enc k w0 blk off d' w' := by
  have mixed := L.mixed; have t0 := L.t0; have a0 := L.a0; have z0 := L.z0; have v0 := L.v0; have t3 := L.t3; have a3 := L.a3; have z3 := L.z3; have v3 := L.v3; have t4 := L.t4; have a4 := L.a4; have z4 := L.z4; have v4 := L.v4; have t6 := L.t6; have a6 := L.a6; have z6 := L.z6; have v6 := L.v6; have t7 := L.t7; have a7 := L.a7; have z7 := L.z7; have v7 := L.v7; have aE := L.aE; have zE := L.zE
  have ew : ∀ args w, (callFunc 225 args).run P w = .ok (.enter 225 args) w := enters_of L.fw (by kernel_rfl) rfl
  have S0 : Aside (SWK enc k w0 blk off d w) := S
  have HD : Hid (d.toList = A ++ X ++ Y ++ B) := hd
  have hfit : b ≤ sz ∧ a < m ∧ m < b ∧ sz = d0.size := by
    have := congrArg List.length hd
    simp at this
    omega
  have HN : Hid (a = A.length ∧ m = A.length + X.length ∧ b = A.length + X.length + Y.length) := ⟨ha, hm, hb⟩
  have hszi : sz < 4611686018427387904 := by omega
  have HS : Hid (d.size = d0.size) := hs
  clear S hd ha hm hb hX hY hz hs hsz
  obtain ⟨hf1, hf2, hf3, hf4⟩ := hfit
  have HF : Hid (sz = d0.size) := hf4
  clear hf4
  go_enter L.fr, Tryz.ntmps212
  go_wp2
  go_loopg [10, 11] (b - a) (fun kx s10 s11 wr => ∃ (i j : Nat) (dk : Array α), s10 = .int .i64 i ∧ s11 = .int .i64 j ∧ 0 < i ∧ 0 < j ∧ i ≤ m ∧ m + j ≤ sz ∧ i + j ≤ kx ∧ Aside (SWK enc k w0 blk off dk wr) ∧ Hid (dk.size = d0.size ∧ ∃ A1 X1 Y1 B1, X1.length = i ∧ Y1.length = j ∧ A1.length + i = m ∧ dk.toList = A1 ++ X1 ++ Y1 ++ B1 ∧ A ++ Y ++ X ++ B = A1 ++ Y1 ++ X1 ++ B1))
  case atStart =>
    obtain ⟨h1, h2, h3⟩ := HN.out
    exact ⟨m - a, b - m, d, by go_num, by go_num, by omega, by omega, by omega, by omega, by omega, S0, HS.out, A, X, Y, B, by omega, by omega, by omega, HD.out, rfl⟩
  case round =>
    clear S0
    obtain ⟨i, j, dk, rfl, rfl, hi, hj, him, hjm, hkx, S1, HL⟩ := hrel
    obtain ⟨hds, A1, X1, Y1, B1, lx, ly, la, e1, e2⟩ := HL.out
    have xm : (m : Int) - (i : Int) = ((m - i : Nat) : Int) := by omega
    have xs : dk.size < 4611686018427387904 := by have := HF.out; omega
    have xz : sz = dk.size := by have := HF.out; omega
    by_cases hij : i = j
    · subst hij
      have hc := swapRange_any L R g cb cap A1 X1 [] Y1 B1 dk wr (by rw [e1]; simp) (by omega) hds S1.out xs sz (m - i) m i xz (by omega) (by simp; omega) (by omega)
      have HE : Hid (A ++ Y ++ X ++ B = A1 ++ Y1 ++ [] ++ X1 ++ B1) := Lib.hid (by rw [e2]; simp)
      have HC := Lib.hid hc
      clear hc e1 e2 lx ly la hds HL xs xz S1
      go_wp2_with (go_at_fn 225; refine HC.out.mono ?_; rintro e w' ⟨rfl, d', hd', S'⟩)
      go_end0
      exact ⟨rfl, d', by rw [hd', HE.out], S'⟩
    · have x1 : ¬ (i : Int) = (j : Int) := by omega
      by_cases hgt : j < i
      · have x2 : (j : Int) < (i : Int) := by omega
        obtain ⟨U, V, eU, lU, lV⟩ := list_cut X1 j (by omega)
        have hc := swapRange_any L R g cb cap A1 U V Y1 B1 dk wr (by rw [e1, eU]; simp) (by omega) hds S1.out xs sz (m - i) m j xz (by omega) (by omega) (by omega)
        have HE : Hid (∀ d' : Array α, d'.toList = A1 ++ Y1 ++ V ++ U ++ B1 → d'.size = d0.size ∧ ∃ A1 X1 Y1 B1, X1.length = i - j ∧ Y1.length = j ∧ A1.length + (i - j) = m ∧ d'.toList = A1 ++ X1 ++ Y1 ++ B1 ∧ A ++ Y ++ X ++ B = A1 ++ Y1 ++ X1 ++ B1) := by
          intro d' h
          refine ⟨?_, A1 ++ Y1, V, U, B1, by omega, lU, by simp; omega, h, by rw [e2, eU]; simp⟩
          rw [← hds, ← Array.length_toList, ← Array.length_toList, h, e1, eU]
          simp; omega
        have HC := Lib.hid hc
        clear hc e1 e2 lx ly la hds HL xs xz S1 eU lU lV
        go_wp2_with (go_at_fn 225; refine HC.out.mono ?_; rintro e w' ⟨rfl, d', hd', S'⟩)
        have G := HE.out d' hd'
        have HG := Lib.hid G
        have SA : Aside (SWK enc k w0 blk off d' w') := S'
        clear hd' S' G
        go_wp2
        go_roundg (i - j + j)
        case measure => omega
        case rel => exact ⟨i - j, j, d', by go_num, rfl, by omega, hj, by omega, hjm, Nat.le_refl _, SA, HG⟩
      · have x2 : ¬ (j : Int) < (i : Int) := by omega
        have xj : (m : Int) + (j : Int) - (i : Int) = ((m + j - i : Nat) : Int) := by omega
        obtain ⟨U, V, eU, lU, lV⟩ := list_cut Y1 (j - i) (by omega)
        have hc := swapRange_any L R g cb cap A1 X1 U V B1 dk wr (by rw [e1, eU]; simp) (by omega) hds S1.out xs sz (m - i) (m + j - i) i xz (by omega) (by omega) (by omega)
        have HE : Hid (∀ d' : Array α, d'.toList = A1 ++ V ++ U ++ X1 ++ B1 → d'.size = d0.size ∧ ∃ A1 X1 Y1 B1, X1.length = i ∧ Y1.length = j - i ∧ A1.length + i = m ∧ d'.toList = A1 ++ X1 ++ Y1 ++ B1 ∧ A ++ Y ++ X ++ B = A1 ++ Y1 ++ X1 ++ B1) := by
          intro d' h
          refine ⟨?_, A1, V, U, X1 ++ B1, by omega, lU, la, by rw [h]; simp, by rw [e2, eU]; simp⟩
          rw [← hds, ← Array.length_toList, ← Array.length_toList, h, e1, eU]
          simp; omega
        have HC := Lib.hid hc
        clear hc e1 e2 lx ly la hds HL xs xz S1 eU lU lV
        go_wp2_with (go_at_fn 225; refine HC.out.mono ?_; rintro e w' ⟨rfl, d', hd', S'⟩)
        have G := HE.out d' hd'
        have HG := Lib.hid G
        have SA : Aside (SWK enc k w0 blk off d' w') := S'
        clear hd' S' G
        go_wp2
        go_roundg (i + (j - i))
        case measure => omega
        case rel => exact ⟨i, j - i, d', rfl, by go_num, hi, by omega, him, by omega, Nat.le_refl _, SA, HG⟩

end Go.Proofs.YticiofkiffgclaaGreat

namespace Go.Proofs.YticiofkiffgclaaGreat
open Go.Shelf Go.RowKit Go.Lib Go.Sort

theorem half (i j : Nat) (h : i < j) (hj : j < 4611686018427387904) : ∃ h : Nat, i ≤ h ∧ h < j ∧ ((i : Int) + (j : Int)) % 18446744073709551616 = (i : Int) + (j : Int) ∧ ((i : Int) + (j : Int)) / 2 = (h : Int) :=
  ⟨(i + j) / 2, by omega, by omega, by omega, by omega⟩

theorem srt_parts {β : Type} {c : β → β → Bool} (T : Tot c) {P R : List β} {y : β} (h : Srt c (P ++ y :: R)) : (∀ z ∈ P ++ [y], c z y = true) ∧ ∀ z ∈ y :: R, c y z = true := by
  obtain ⟨_, h2, h3⟩ := List.pairwise_append.1 h
  refine ⟨fun z hz => ?_, fun z hz => ?_⟩
  · rcases List.mem_append.1 hz with hz | hz
    · exact h3 z hz y (by simp)
    · simp only [List.mem_singleton] at hz
      subst hz; exact T.refl _
  · rcases List.mem_cons.1 hz with rfl | hz
    · exact T.refl _
    · exact (List.pairwise_cons.1 h2).1 z hz

theorem srt_front {β : Type} {c : β → β → Bool} (T : Tot c) {x : β} {Y1 Y2 : List β} (h : Srt c (Y1 ++ Y2)) (h1 : ∀ y ∈ Y1, c x y = false) (h2 : ∀ y ∈ Y2, c x y = true) : srt c ([x] ++ (Y1 ++ Y2)) = Y1 ++ x :: Y2 := by
  obtain ⟨s1, s2, s3⟩ := List.pairwise_append.1 h
  refine (srt_is T ?_ ?_).symm
  · refine List.pairwise_append.2 ⟨s1, List.pairwise_cons.2 ⟨h2, s2⟩, fun a ha b hb => ?_⟩
    rcases List.mem_cons.1 hb with rfl | hb
    · exact (T.total a b).resolve_right (by rw [h1 a ha]; simp)
    · exact s3 a ha b hb
  · have sw : Stab c ([x] ++ Y1) (Y1 ++ [x]) := Stab.swap T (fun u hu y hy => by
      simp only [List.mem_singleton] at hu
      subst hu
      simp [eqv, h1 y hy])
    have := sw.append (Stab.refl c Y2)
    simpa only [List.append_assoc, List.singleton_append, List.cons_append, List.nil_append] using this

theorem srt_back {β : Type} {c : β → β → Bool} (T : Tot c) {y : β} {X1 X2 : List β} (h : Srt c (X1 ++ X2)) (h1 : ∀ x ∈ X1, c x y = true) (h2 : ∀ x ∈ X2, c x y = false) : srt c ((X1 ++ X2) ++ [y]) = X1 ++ y :: X2 := by
  obtain ⟨s1, s2⟩ := insert_at T h h1 h2
  exact (srt_is T s1 s2).symm

variable {P : Program} {α : Type} [Inhabited α] {k : Nat} {enc : α → List Value} {w0 : World} {blk off : Nat} {d0 : Array α}

set_option maxHeartbeats 4000000 in
set_option maxRecDepth 1000000 in
theorem sym_front (L : SL P k) (R : RowK enc k w0 blk off d0) {c : α → α → Bool} (T : Tot c) {cf : α → α → Int} (hcf : ∀ x y, cf x y < 0 ↔ c y x = false) (g : Nat) (cb : Array Value) (eg : ∀ args w, (callFunc g args).run P w = .ok (.enter g args) w) (hcmp : CmpLays P g cb enc k cf blk off d0.size w0)
    (cap : Nat) (A : List α) (x : α) (Y B : List α) (d : Array α) (w : World) (hd : d.toList = A ++ [x] ++ Y ++ B) (hs : d.size = d0.size) (S : SWK enc k w0 blk off d w) (hsz : d.size < 4611686018427387904) (hY : Srt c Y)
    (sz a m b : Nat) (hz : sz = d.size) (ha : a = A.length) (hm : m = a + 1) (hb : b = m + Y.length) :
    Calls P 186 #[.slice (some ⟨blk, off, none⟩) sz cap, .int .i64 a, .int .i64 m, .int .i64 b, .func (.func g) #[] cb] w fun e w' => e = .returned (.tuple #[]) ∧ ∃ d' : Array α, d'.toList = A ++ srt c ([x] ++ Y) ++ B ∧ SWK enc k w0 blk off d' w' := by
  have mixed := L.mixed; have t0 := L.t0; have a0 := L.a0; have z0 := L.z0; have v0 := L.v0; have t3 := L.t3; have a3 := L.a3; have z3 := L.z3; have v3 := L.v3; have t4 := L.t4; have a4 := L.a4; have z4 := L.z4; have v4 := L.v4; have t5 := L.t5; have a5 := L.a5; have z5 := L.z5; have v5 := L.v5; have t6 := L.t6; have a6 := L.a6; have z6 := L.z6; have v6 := L.v6; have t7 := L.t7; have a7 := L.a7; have z7 := L.z7; have v7 := L.v7; have aE := L.aE; have zE := L.zE
  have u6 := run_underlying L.t6; have u5 := run_underlying L.t5; have u3 := run_underlying L.t3
  have S0 : Aside (SWK enc k w0 blk off d w) := S
  have HC : Aside _ := hcmp
  have HD : Hid (d.toList = A ++ [x] ++ Y ++ B) := Lib.hid hd
  have HS : Hid (d.size = d0.size ∧ sz = d.size) := Lib.hid ⟨hs, hz⟩
  have hfit : b ≤ sz := by
    have := congrArg List.length hd
    simp at this
    omega
  have HN : Hid (a = A.length ∧ b = m + Y.length ∧ m = a + 1) := Lib.hid ⟨ha, hb, hm⟩
  have hszi : sz < 4611686018427387904 := by omega
  have hmb : m ≤ b := by omega
  have hm1 : (m : Int) - (a : Int) = 1 := by omega
  have ham : a < m := by omega
  have HT : Hid (Tot c) := Lib.hid T
  have HY : Hid (Srt c Y) := Lib.hid hY
  have HCF : Hid (∀ x y, cf x y < 0 ↔ c y x = false) := Lib.hid hcf
  clear S hcmp hd hs hz ha hb hm hsz hY hcf T
  go_enter L.fm, Tryz.ntmps186
  go_wp2
  go_loopg [10, 11, 12] (b - m) (fun kx s10 s11 _ wr => ∃ (i j : Nat), s10 = .int .i64 i ∧ s11 = .int .i64 j ∧ m ≤ i ∧ i ≤ j ∧ j ≤ b ∧ j - i ≤ kx ∧ Aside (SWK enc k w0 blk off d wr) ∧ Hid ((∀ y ∈ Y.take (i - m), c x y = false) ∧ ∀ y ∈ Y.drop (j - m), c x y = true))
  case atStart => exact ⟨m, b, rfl, rfl, by omega, by omega, by omega, by omega, S0, by simp, by have := HN.out; rw [List.drop_of_length_le (by omega)]; simp⟩
  case round =>
    clear S0
    obtain ⟨i, j, rfl, rfl, hmi, hij, hjb, hkx, S1, HL⟩ := hrel
    by_cases hlt : i < j
    · have x1 : (i : Int) < (j : Int) := by omega
      obtain ⟨h, hk1, hk2, e2, e3⟩ := half i j hlt (by omega)
      have E := Lib.hid (And.intro e2 e3)
      clear e2 e3
      obtain ⟨Y1, Y2, y, hYy, lY, -⟩ := mid_split Y (i := h - m) (by have := HN.out; omega)
      have q1 : d.toList = (A ++ [x] ++ Y1) ++ y :: (Y2 ++ B) := by rw [HD.out, hYy]; simp
      have q0 : d.toList = A ++ x :: (Y ++ B) := by rw [HD.out]; simp
      obtain ⟨ih, eh⟩ := at_list (i := h) q1 (by have := HN.out; simp; omega)
      obtain ⟨ia, ea0⟩ := at_list (i := a) q0 (by have := HN.out; omega)
      obtain ⟨sp1, sp2⟩ := srt_parts HT.out (P := Y1) (y := y) (R := Y2) (by rw [← hYy]; exact HY.out)
      have eh1 : ((h : Int)).toNat = h := by omega
      have ph : (0 : Int) ≤ (h : Int) := by omega
      have bh : (h : Int) < (sz : Int) := by omega
      have rh : IntKind.i64.wrap ((h : Int)) = (h : Int) := by rw [IntKind.wrap_i64]; omega
      have ea1 : ((a : Int)).toNat = a := by omega
      have pa : (0 : Int) ≤ (a : Int) := by omega
      have ba : (a : Int) < (sz : Int) := by omega
      have ra : IntKind.i64.wrap ((a : Int)) = (a : Int) := by rw [IntKind.wrap_i64]; omega
      have lh := S1.out.ld R HS.out.1 P h ih
      have la := S1.out.ld R HS.out.1 P a ia
      rw [eh] at lh
      rw [ea0] at la
      have hc := S1.out.cmp HC.out HS.out.1 y x
      have tk : Y.take (h + 1 - m) = Y1 ++ [y] := by
        rw [hYy, show Y1 ++ y :: Y2 = (Y1 ++ [y]) ++ Y2 by simp]
        exact List.take_left' (by simp; omega)
      have dp : Y.drop (h - m) = y :: Y2 := by
        rw [hYy, ← lY]; simp
      by_cases hv : c x y = false
      · have hv1 : cf y x < 0 := (HCF.out y x).2 hv
        have hd1 : decide (cf y x < 0) = true := decide_eq_true hv1
        have HR : Hid ((∀ y ∈ Y.take (h + 1 - m), c x y = false) ∧ ∀ y ∈ Y.drop (j - m), c x y = true) := Lib.hid ⟨by
          rw [tk]
          intro z hz
          cases hxz : c x z with
          | false => rfl
          | true => rw [HT.out.trans x z y hxz (sp1 z hz)] at hv; simp at hv, HL.out.2⟩
        clear HL hv tk dp sp1 sp2 q0 q1 eh ea0 hYy lY ih ia
        obtain ⟨e2, e3⟩ := E.out
        go_wp2_with fail
        go_quiet_grown (first | (go_at_fn g; refine Calls.grown_of (hc _ _)))
        have S2 : Aside (SWK enc k w0 blk off d (grow (wr.drewN nq) osq)) := S1.out.grown nq osq
        clear lh la hc S1
        generalize grow (wr.drewN nq) osq = w2 at S2 ⊢
        go_wp2
        go_roundg (j - (h + 1))
        case measure => omega
        case rel => exact ⟨h + 1, j, by go_num, rfl, by omega, by omega, hjb, Nat.le_refl _, S2, HR⟩
      · have hv1 : ¬ cf y x < 0 := fun hn => hv ((HCF.out y x).1 hn)
        have hd1 : decide (cf y x < 0) = false := decide_eq_false hv1
        have HR : Hid ((∀ y ∈ Y.take (i - m), c x y = false) ∧ ∀ y ∈ Y.drop (h - m), c x y = true) := Lib.hid ⟨HL.out.1, by
          rw [dp]
          intro z hz
          exact HT.out.trans x y z (by simpa using hv) (sp2 z hz)⟩
        clear HL hv tk dp sp1 sp2 q0 q1 eh ea0 hYy lY ih ia
        obtain ⟨e2, e3⟩ := E.out
        go_wp2_with fail
        go_quiet_grown (first | (go_at_fn g; refine Calls.grown_of (hc _ _)))
        have S2 : Aside (SWK enc k w0 blk off d (grow (wr.drewN nq) osq)) := S1.out.grown nq osq
        clear lh la hc S1
        generalize grow (wr.drewN nq) osq = w2 at S2 ⊢
        go_wp2
        go_roundg (h - i)
        case measure => omega
        case rel => exact ⟨i, h, rfl, rfl, hmi, by omega, by omega, Nat.le_refl _, S2, HR⟩
    · have x1 : ¬ (i : Int) < (j : Int) := by omega
      obtain rfl : i = j := by omega
      obtain ⟨Y1, Y2, hYe, l1, l2⟩ := list_cut Y (i - m) (by have := HN.out; omega)
      have HE : Hid (Y = Y1 ++ Y2 ∧ Y1.length = i - m ∧ srt c ([x] ++ Y) = Y1 ++ x :: Y2) := Lib.hid ⟨hYe, l1, by
        obtain ⟨f1, f2⟩ := HL.out
        rw [hYe, ← l1, List.take_left] at f1
        rw [hYe, ← l1, List.drop_left] at f2
        rw [hYe]
        exact srt_front HT.out (by rw [← hYe]; exact HY.out) f1 f2⟩
      clear HL hYe l1 l2
      go_wp2
      go_loopg [13] (i - a) (fun kx s13 wr2 => ∃ (q : Nat) (dk : Array α), s13 = .int .i64 q ∧ a ≤ q ∧ q + 1 ≤ i ∧ i - q ≤ kx ∧ dk.size = d0.size ∧ Aside (SWK enc k w0 blk off dk wr2) ∧ Hid (∃ U V, Y1 = U ++ V ∧ U.length = q - a ∧ dk.toList = A ++ U ++ x :: (V ++ Y2) ++ B))
      case atStart => exact ⟨a, d, rfl, by omega, by omega, by omega, HS.out.1, S1, [], Y1, rfl, by simp, by rw [HD.out, HE.out.1]; simp⟩
      case round =>
        clear S1
        obtain ⟨q, dk, rfl, haq, hqi, hkx2, hds, S1, HL⟩ := hrel
        by_cases hql : q + 1 < i
        · have x2 : (q : Int) < (i : Int) - 1 := by omega
          obtain ⟨y, V1, V3, q0, q1, HR⟩ : ∃ y V1 V3, dk.toList = V1 ++ x :: ([] ++ y :: V3) ∧ q = V1.length ∧ Hid (∃ U V, Y1 = U ++ V ∧ U.length = q + 1 - a ∧ V1 ++ y :: ([] ++ x :: V3) = A ++ U ++ x :: (V ++ Y2) ++ B) := by
            obtain ⟨U, V, e1, e2, e3⟩ := HL.out
            obtain ⟨h1, h2, h3⟩ := HE.out
            obtain ⟨n1, n2, n3⟩ := HN.out
            cases V with
            | nil => rw [e1] at h2; simp at h2; omega
            | cons y V => exact ⟨y, A ++ U, V ++ Y2 ++ B, by rw [e3]; simp, by simp; omega, Lib.hid ⟨U ++ [y], V, by rw [e1]; simp, by simp; omega, by simp⟩⟩
          have T1 := swp_list (i := q) (j := q + 1) q0 q1 (by simp; omega)
          obtain ⟨i1, e1⟩ := at_list q0 q1
          obtain ⟨i2, e2⟩ := at_list (P := V1 ++ [x]) (R := V3) (x := y) (i := q + 1) (by rw [q0]; simp) (by simp; omega)
          have HR2 : Hid (∃ U V, Y1 = U ++ V ∧ U.length = q + 1 - a ∧ (swp dk q (q + 1)).toList = A ++ U ++ x :: (V ++ Y2) ++ B) := Lib.hid (by rw [T1]; exact HR.out)
          have ea : ((q : Int)).toNat = q := by omega
          have pa : (0 : Int) ≤ (q : Int) := by omega
          have ba : (q : Int) < (sz : Int) := by omega
          have ra : IntKind.i64.wrap ((q : Int)) = (q : Int) := by rw [IntKind.wrap_i64]; omega
          have ec : ((q : Int) + 1).toNat = q + 1 := by omega
          have pc : (0 : Int) ≤ (q : Int) + 1 := by omega
          have bc : (q : Int) + 1 < (sz : Int) := by omega
          have rc : IntKind.i64.wrap ((q : Int) + 1) = (q : Int) + 1 := by rw [IntKind.wrap_i64]; omega
          have S2 : Aside (SWK enc k w0 blk off (swp dk q (q + 1)) ((wr.drew.setCells blk (off + q * k) (enc y)).setCells blk (off + (q + 1) * k) (enc x))) := by
            have := S1.out.swapped R q (q + 1) i1 i2
            rwa [e1, e2] at this
          have la := S1.out.ld1 R hds P q i1
          have lb := S1.out.ld1 R hds P (q + 1) i2
          have sa := S1.out.st1 R hds P q i1 y
          have sb := S1.out.st2 R hds P q (q + 1) i1 i2 y x
          have na : (enc x).length = k := R.hk _
          have nb : (enc y).length = k := R.hk _
          rw [e1] at la
          rw [e2] at lb
          generalize enc x = cI at S2 la sb na
          generalize enc y = cJ at S2 lb sa sb nb
          clear S1 HL q0 q1 T1 e1 e2 i1 i2 HR
          go_wp2_with fail
          go_big_region_o
          clear la lb sa sb
          generalize (wr.drew.setCells blk (off + q * k) cJ).setCells blk (off + (q + 1) * k) cI = w2 at S2 ⊢
          go_wp2
          go_roundg (i - (q + 1))
          case measure => omega
          case rel => exact ⟨q + 1, _, by go_num, by omega, by omega, Nat.le_refl _, by rw [size_swp]; exact hds, S2, HR2⟩
        · have x2 : ¬ (q : Int) < (i : Int) - 1 := by omega
          go_wp2
          (try simp only [Exit.inBlock, Exit.then])
          refine bodyPost_ret (results_none rfl _ _ _) rfl ?_
          obtain ⟨U, V, e1, e2, e3⟩ := HL.out
          obtain ⟨h1, h2, h3⟩ := HE.out
          obtain ⟨n1, n2, n3⟩ := HN.out
          have : V = [] := List.eq_nil_of_length_eq_zero (by rw [e1] at h2; simp at h2; omega)
          subst this
          refine ⟨rfl, dk, ?_, S1.out⟩
          rw [e3, show srt c (x :: Y) = Y1 ++ x :: Y2 from h3, e1]
          simp

end Go.Proofs.YticiofkiffgclaaGreat
