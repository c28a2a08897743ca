/-
  The code's items as one state; the document's example (seven); the owners that the laws name.
-/
import Derived.Test.YtcnjgjgppbakdaaRth
import Derived.Test.YtcnjgjgppbakdaaTxs
namespace Go.Proofs.Ytcnjgjgppbakdaa
set_option linter.unusedVariables false
open Go.RowKit

variable {w0 w w' : World} {h : Nat} {l : List It}

/-- Items of the call's own: all that there is to say of them. -/
def Tq (w0 w : World) (h : Nat) (l : List It) : Prop := OkI l ∧ ∃ V, Ls encIt rtT rtE w w0.heap.size h V l ∧ Kept w0 w []

theorem Tq.keep (c : Tq w0 w h l) (k : Kept w w' []) : Tq w0 w' h l := by
  obtain ⟨ok, V, a, k0⟩ := c
  exact ⟨ok, V, a.keep k, k0.trans k (by simp)⟩
theorem Tq.kept (c : Tq w0 w h l) : Kept w0 w [] := by
  obtain ⟨ok, V, a, k0⟩ := c
  exact k0
theorem Tq.ok (c : Tq w0 w h l) : OkI l := c.1
theorem Tq.below (c : Tq w0 w h l) : Below w0.heap.size w0 w := c.kept.below (Nat.le_refl _) (by simp)

theorem tq_new (k : Kept w0 w []) : Calls Try.prog 10 #[] w fun e w' => ∃ h, e = .returned (.pointer (some ⟨h, 0, none⟩)) ∧ Tq w0 w' h [] := by
  refine (tnew_any w).mono ?_
  rintro e w' ⟨rfl, a, k1⟩
  exact ⟨_, rfl, OkI.nil, .slice none 0 0, ⟨a.hh, k.size, a.hT, OwnK.nil _ _ _⟩, k.trans k1 (by simp)⟩

theorem tq_chg (c : Tq w0 w h l) {V : Value} (a : Ls encIt rtT rtE w w0.heap.size h V l) {r : Value} {m : List It} (ok : OkI m) {e : Ending} (p : ChgT w w0.heap.size h V r m e w') : e = .returned r ∧ Tq w0 w' h m := by
  obtain ⟨rfl, V', a', s⟩ := p
  exact ⟨rfl, ok, V', a', c.kept.foC s.1 (fun k hk => (a.lt k hk).1)⟩

theorem tq_add (c : Tq w0 w h l) (e : Ev) (hb : -9223372036854775808 ≤ e.tr) (ow : ByteArray) (at' : Int) : Calls Try.prog 11 #[.pointer (some ⟨h, 0, none⟩), .agg (encEv.cs e), .string ow, .int .i64 at'] w fun r w' => r = .returned (.int .i64 (adiE l e.id ow)) ∧ Tq w0 w' h (adiL l e ow at') := by
  obtain ⟨ok, V, a, k0⟩ := id c
  exact (tadd_any a ok e hb ow at').mono (fun e w' p => tq_chg c a (ok.add _ _ _) p)
theorem tq_all (c : Tq w0 w h l) : Calls Try.prog 22 #[.pointer (some ⟨h, 0, none⟩)] w fun e w' => ∃ v', e = .returned v' ∧ OwnK encIt w' w.heap.size rtE v' l ∧ Kept w w' [] := by
  obtain ⟨ok, V, a, k0⟩ := id c
  exact tall_any a (by have := ok.few; omega)
theorem tq_due (c : Tq w0 w h l) (now : Int) : Calls Try.prog 15 #[.pointer (some ⟨h, 0, none⟩), .int .i64 now] w fun e w' => ∃ v', e = .returned v' ∧ OwnK encEv w' w.heap.size evT v' (evs (dueI l now)) ∧ Kept w w' [] := by
  obtain ⟨ok, V, a, k0⟩ := id c
  exact tdue_any a ok now
theorem tq_take (c : Tq w0 w h l) (now : Int) : Calls Try.prog 17 #[.pointer (some ⟨h, 0, none⟩), .int .i64 now] w fun e w' => ∃ v', e = .returned v' ∧ OwnK encEv w' w.heap.size evT v' (evs (dueI l now)) ∧ Tq w0 w' h (lftI l now) ∧ ∃ O, (∀ k, O k → k < w.heap.size ∧ w0.heap.size ≤ k) ∧ Fo O w w' := by
  obtain ⟨ok, V, a, k0⟩ := id c
  refine (ttake_any a ok now).mono ?_
  rintro e w' ⟨v', rfl, o, V', a', s⟩
  exact ⟨v', rfl, o, ⟨ok.lft now, V', a', c.kept.foC s.1 (fun k hk => (a.lt k hk).1)⟩, lfoot h V, fun k hk => ⟨(a.lt k hk).2, (a.lt k hk).1⟩, s.1⟩
theorem tq_drop (c : Tq w0 w h l) (ow : ByteArray) : Calls Try.prog 19 #[.pointer (some ⟨h, 0, none⟩), .string ow] w fun e w' => e = .returned (.int .i64 ((l.length : Int) - (drpI l ow).length)) ∧ Tq w0 w' h (drpI l ow) := by
  obtain ⟨ok, V, a, k0⟩ := id c
  exact (tdrop_any a ok ow).mono (fun e w' p => tq_chg c a (ok.drp _) p)

def nA : ByteArray := ⟨#[97]⟩
def e7 : Ev := ⟨7, 0, ⟨#[]⟩, 0, 0, 0, 0, ⟨#[]⟩⟩
def x7 : It := ⟨5, ⟨7, 0, nA, 1, 0, 0, 0, ⟨#[]⟩⟩⟩
theorem seven_math : adiE [] 7 nA = 0 ∧ adiL [] e7 nA 5 = [x7] ∧ evs (dueI [x7] 5) = [x7.e] ∧ evs (dueI [x7] 4) = [] := by
  have h1 : adiE [] 7 nA = 0 := by rw [adiE, if_neg (by decide)]; rfl
  refine ⟨h1, ?_, ?_, ?_⟩
  · rw [adiL, if_pos (show adiE [] e7.id nA = 0 from h1)]; rfl
  · rw [dueI, List.filter_cons_of_pos (by decide)]; rfl
  · rw [dueI, List.filter_cons_of_neg (by decide)]; rfl

set_option maxHeartbeats 2000000 in
set_option maxRecDepth 100000 in
theorem seven_any (w : World) : Calls Try.prog 9 #[] w fun e w' => e = .returned (.bool true) ∧ Kept w w' [] := by
  obtain ⟨s1, s2, s3, s4⟩ := seven_math
  have S1 := Lib.hid s1; have S2 := Lib.hid s2; have S3 := Lib.hid s3; have S4 := Lib.hid s4
  clear s1 s2 s3 s4
  go_enter Try.func9, Try.ntmps9
  go_wp2_with fail
  refine (tq_new (Kept.refl w [])).mono ?_
  rintro e w1 ⟨h, rfl, c1⟩
  have C1 := Lib.hid c1; clear c1
  go_wp2_with fail
  refine (tq_add C1.out e7 (by decide) nA 5).mono ?_
  rintro e w2 ⟨rfl, c2⟩
  rw [S2.out] at c2
  rw [show adiE [] e7.id nA = 0 from S1.out]
  have C2 := Lib.hid c2; clear c2
  go_wp2_with fail
  refine (tq_due C2.out 5).mono ?_
  rintro e w3 ⟨v3, rfl, o3, k3⟩
  rw [S3.out] at o3
  obtain ⟨u3, c3, e3⟩ := o3.shape
  subst e3
  obtain ⟨g, eg, -⟩ := o3.at (i := 0) (x := x7.e) rfl
  subst eg
  have C3 := Lib.hid (C2.out.keep k3); have O3 := Lib.hid o3
  clear k3 o3
  simp only [List.length_cons, List.length_nil, Nat.zero_add]
  go_wp2_with fail
  refine (tq_due C3.out 4).mono ?_
  rintro e w4 ⟨v4, rfl, o4, k4⟩
  rw [S4.out] at o4
  obtain ⟨u4, c4, e4⟩ := o4.shape
  subst e4
  obtain ⟨g', eg, hc⟩ := (O3.out.keep k4).at (i := 0) (x := x7.e) rfl
  simp only [Option.some.injEq, Addr.mk.injEq] at eg
  obtain ⟨rfl, _⟩ := eg
  obtain ⟨p0, p2, p3⟩ : w4.cell? ⟨g, 0, none⟩ = some (.int .i64 7) ∧ w4.cell? ⟨g, 2, none⟩ = some (.string ⟨#[97]⟩) ∧ w4.cell? ⟨g, 3, none⟩ = some (.int .i64 1) :=
    ⟨by have := (hc 0 (by decide)).1; rw [Nat.zero_mul] at this; exact this.trans rfl, by have := (hc 2 (by decide)).1; rw [Nat.zero_mul, Nat.zero_add] at this; exact this.trans rfl, by have := (hc 3 (by decide)).1; rw [Nat.zero_mul, Nat.zero_add] at this; exact this.trans rfl⟩
  have C4 := Lib.hid (C3.out.keep k4)
  clear k4 o4 hc
  simp only [List.length_nil]
  go_wp2
  go_ret
  exact ⟨rfl, C4.out.kept⟩

/-- The owner of a number. -/
def ownN (n : Nat) : ByteArray := if n % 7 = 6 then ⟨#[]⟩ else bN (97 + ((n % 3 : Nat) : Int))

set_option maxHeartbeats 1000000 in
theorem owner_any (n : Nat) (hn : n < 256) (w : World) : Calls Try.prog 12 #[.int .u8 n] w fun e w' => e = .returned (.string (ownN n)) ∧ Kept w w' [] := by
  obtain ⟨q, hq⟩ : ∃ q : Nat, q = n % 7 := ⟨_, rfl⟩
  have xq : (n : Int) % 7 = (q : Int) := by omega
  have xqt : (n : Int).tmod 7 = (q : Int) := by rw [Int.tmod_eq_emod_of_nonneg (by omega)]; exact xq
  obtain ⟨r, hr⟩ : ∃ r : Nat, r = n % 3 := ⟨_, rfl⟩
  have xr : (n : Int) % 3 = (r : Int) := by omega
  have xrt : (n : Int).tmod 3 = (r : Int) := by rw [Int.tmod_eq_emod_of_nonneg (by omega)]; exact xr
  have hr3 : r < 3 := by omega
  rw [ownN, ← hq, ← hr]
  clear hq hr
  by_cases h : q = 6
  · subst h
    rw [if_pos rfl]
    go_enter Try.func12, Try.ntmps12
    go_wp2
    go_ret
    exact ⟨rfl, Kept.refl w []⟩
  · rw [if_neg h]
    have h6 : ((q : Int) == 6) = false := by rw [beq_eq_false_iff_ne]; omega
    have sc := str1 (x := 97 + (r : Int)) (by omega) (by omega) w w.heap.size rfl
    go_enter Try.func12, Try.ntmps12
    go_wp2
    go_ret
    exact ⟨rfl, (Kept.refl w []).alloc _⟩

end Go.Proofs.Ytcnjgjgppbakdaa
