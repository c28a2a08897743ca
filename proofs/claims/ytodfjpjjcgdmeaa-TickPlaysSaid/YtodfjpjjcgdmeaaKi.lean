/-
  The code's ticks as one state; the document's example (trims).
-/
import Derived.Test.YtodfjpjjcgdmeaaKh
namespace Go.Proofs.Ytodfjpjjcgdmeaa
set_option linter.unusedVariables false
open Go.RowKit

variable {w0 w w' : World} {h : Nat} {ps : List Pt}

theorem Kept.foK {O : Nat → Prop} {a b c : World} (k : Kept a b []) (f : Fo O b c) (hB : ∀ k, O k → a.heap.size ≤ k) : Kept a c [] :=
  ⟨f.os.trans k.os, f.tape.trans k.tape, f.output.trans k.output, Nat.le_trans k.size f.size, fun i hi _ => (f.block i (Nat.lt_of_lt_of_le hi k.size) (fun ho => by have := hB i ho; omega)).trans (k.block i hi (by simp))⟩

/-- Ticks of the call's own: all that there is to say of them. -/
def Ck (w0 w : World) (h : Nat) (ps : List Pt) : Prop := ∃ V xs, Tc tkT [] w w0.heap.size h V xs ∧ xs.map Tk.pl = ps ∧ Kept w0 w []

theorem Ck.keep (c : Ck w0 w h ps) (k : Kept w w' []) : Ck w0 w' h ps := by
  obtain ⟨V, xs, a, e, k0⟩ := c
  exact ⟨V, xs, a.keep k, e, k0.trans k (by simp)⟩
theorem Ck.kept (c : Ck w0 w h ps) : Kept w0 w [] := by
  obtain ⟨V, xs, a, e, k0⟩ := c
  exact k0

theorem ck_new (k : Kept w0 w []) : Calls Try.prog 11 #[] w fun e w' => ∃ h, e = .returned (.pointer (some ⟨h, 0, none⟩)) ∧ Ck w0 w' h [] := by
  refine (tknew_any w).mono ?_
  rintro e w' ⟨rfl, a, k1⟩
  have hs := k.size
  exact ⟨_, rfl, .slice none 0 0, [], ⟨a.hh, hs, a.hT, OwnT.nil _ _ _, a.rd⟩, rfl, k.trans k1 (by simp)⟩

theorem ck_len (c : Ck w0 w h ps) : Calls Try.prog 20 #[.pointer (some ⟨h, 0, none⟩)] w fun e w' => e = .returned (.int .i64 ps.length) ∧ w' = w := by
  obtain ⟨V, xs, a, rfl, k0⟩ := c
  rw [List.length_map]
  exact tklen_any a

theorem ck_last (c : Ck w0 w h ps) (ok : Okp ps) : Calls Try.prog 19 #[.pointer (some ⟨h, 0, none⟩)] w fun e w' => e = .returned (.int .i64 (lastN ps)) ∧ Kept w w' [] := by
  obtain ⟨V, xs, a, rfl, k0⟩ := c
  exact tklast_any a (by have := ok.size; simp at this; omega)

theorem ck_add (c : Ck w0 w h ps) (ok : Okp ps) (M : Int) (va : Option Addr) (vc : Nat) (l : List Int) (t : Int) (hr : RdT w (.slice va l.length vc) l) (hM : M ≤ 9223372036854775807) (hll : l.length ≤ 1000) (hlast : lastN ps ≤ 1099511627776) :
    Calls Try.prog 13 #[.pointer (some ⟨h, 0, none⟩), .agg #[.int .i64 M, .slice va l.length vc], .int .i64 t] w fun e w' =>
      ∃ y : Tk, e = .returned (.tuple #[.agg y.cs, .int .i64 (addE ps M l t)]) ∧ y.pl = addP ps M l t ∧ RdT w' y.op y.l ∧ Ck w0 w' h (addS ps M l t) := by
  obtain ⟨V, xs, a, rfl, k0⟩ := c
  refine (tkadd_any a ok M va vc l t hr hM hll hlast).mono ?_
  rintro e w' ⟨y, V', xs', rfl, h1, h2, h3, h4, h5, _⟩
  exact ⟨y, rfl, h1, h2, V', xs', h3, h4, k0.foK h5.1 (fun k hk => (a.lt k hk).1)⟩

theorem ck_put (c : Ck w0 w h ps) (ok : Okp ps) (n M : Int) (va : Option Addr) (vc : Nat) (l : List Int) (t : Int) (hr : RdT w (.slice va l.length vc) l) (hM : M ≤ 9223372036854775807) (hll : l.length ≤ 1000) (hlast : lastN ps ≤ 1099511627776) :
    Calls Try.prog 16 #[.pointer (some ⟨h, 0, none⟩), .agg #[.int .i64 n, .int .i64 M, .slice va l.length vc, .int .i64 t]] w fun e w' =>
      e = .returned (.int .i64 (putE ps n M l t)) ∧ Ck w0 w' h (putS ps n M l t) := by
  obtain ⟨V, xs, a, rfl, k0⟩ := c
  refine (tkput_any a ok n M va vc l t hr hM hll hlast).mono ?_
  rintro e w' ⟨rfl, V', xs', h3, h4, h5⟩
  exact ⟨rfl, V', xs', h3, h4, k0.foK h5.1 (fun k hk => (a.lt k hk).1)⟩

theorem ck_trim (c : Ck w0 w h ps) (ok : Okp ps) (b : Int) :
    Calls Try.prog 17 #[.pointer (some ⟨h, 0, none⟩), .int .i64 b] w fun e w' => e = .returned (.int .i64 ((ps.length : Int) - ((trimS ps b).length : Int))) ∧ Ck w0 w' h (trimS ps b) := by
  obtain ⟨V, xs, a, rfl, k0⟩ := c
  refine (tktrim_any a (by have := ok.size; simp at this; omega) b).mono ?_
  rintro e w' ⟨rfl, V', xs', h3, h4, h5⟩
  exact ⟨by rw [List.length_map], V', xs', h3, h4, k0.foK h5.1 (fun k hk => (a.lt k hk).1)⟩

theorem ck_get (c : Ck w0 w h ps) (ok : Okp ps) (n : Int) : Calls Try.prog 21 #[.pointer (some ⟨h, 0, none⟩), .int .i64 n] w (FirstPost w (getS ps n)) := by
  obtain ⟨V, xs, a, rfl, k0⟩ := c
  exact tkget_any a ok n
theorem ck_after (c : Ck w0 w h ps) (ok : Okp ps) (n : Int) : Calls Try.prog 23 #[.pointer (some ⟨h, 0, none⟩), .int .i64 n] w (FirstPost w (aftS ps n)) := by
  obtain ⟨V, xs, a, rfl, k0⟩ := c
  exact tkaft_any a ok n

/-- As many alike as there may be. -/
theorem addS_one : addS [] 1 [] 0 = [⟨1, 1, [], 0⟩] ∧ addS [⟨1, 1, [], 0⟩] 1 [] 0 = [⟨1, 1, [], 0⟩, ⟨2, 1, [], 0⟩] ∧ trimS [⟨1, 1, [], 0⟩, ⟨2, 1, [], 0⟩] 9 = [⟨2, 1, [], 0⟩] := by
  refine ⟨?_, ?_, ?_⟩ <;> rfl

theorem Okp.add1 {ps : List Pt} (ok : Okp ps) (t : Int) {M : Int} (hM : M ≤ 9223372036854775807) : Okp (addS ps M [] t) := ok.add t hM (by simp)

set_option maxHeartbeats 2000000 in
set_option maxRecDepth 100000 in
theorem trims_any (w : World) : Calls Try.prog 10 #[] w fun e w' => e = .returned (.bool true) ∧ Kept w w' [] := by
  obtain ⟨s1, s2, s3⟩ := addS_one
  have OK1 : RowKit.Hid (Okp [⟨1, 1, [], 0⟩]) := Lib.hid (by have := Okp.nil.add1 0 (show (1 : Int) ≤ _ by omega); rw [s1] at this; exact this)
  have OK2 : RowKit.Hid (Okp [⟨1, 1, [], 0⟩, ⟨2, 1, [], 0⟩]) := Lib.hid (by have := OK1.out.add1 0 (show (1 : Int) ≤ _ by omega); rw [s2] at this; exact this)
  have OK3 : RowKit.Hid (Okp [⟨2, 1, [], 0⟩]) := Lib.hid (by have := OK2.out.trim 9; rw [s3] at this; exact this)
  have S1 := Lib.hid s1; have S2 := Lib.hid s2; have S3 := Lib.hid s3
  clear s1 s2 s3
  go_enter Try.func10, Try.ntmps10
  go_wp2_with fail
  refine (ck_new (Kept.refl w [])).mono ?_
  rintro e w1 ⟨h, rfl, c1⟩
  have C1 := Lib.hid c1; clear c1
  go_wp2_with fail
  refine (ck_add C1.out Okp.nil 1 none 0 [] 0 (RdT.nil _) (by omega) (by simp) (by simp [lastN])).mono ?_
  rintro e w2 ⟨y, rfl, _, _, c2⟩
  rw [S1.out] at c2
  have C2 := Lib.hid c2; clear c2
  go_wp2_with fail
  refine (ck_add C2.out OK1.out 1 none 0 [] 0 (RdT.nil _) (by omega) (by simp) (by simp [lastN])).mono ?_
  rintro e w3 ⟨y, rfl, _, _, c3⟩
  rw [S2.out] at c3
  have C3 := Lib.hid c3; clear c3
  go_wp2_with fail
  refine (ck_trim C3.out OK2.out 9).mono ?_
  rintro e w4 ⟨rfl, c4⟩
  rw [S3.out] at c4 ⊢
  have C4 := Lib.hid c4; clear c4
  go_wp2_with fail
  refine (ck_last C4.out OK3.out).mono ?_
  rintro e w5 ⟨rfl, k5⟩
  have C5 := Lib.hid (C4.out.keep k5); clear k5
  have e5 : lastN [⟨2, 1, [], 0⟩] = 2 := rfl
  rw [e5]
  clear e5
  go_wp2_with fail
  refine (ck_len C5.out).mono ?_
  rintro e w6 ⟨rfl, rfl⟩
  go_wp2
  go_ret
  exact ⟨rfl, C5.out.kept⟩

end Go.Proofs.Ytodfjpjjcgdmeaa
