/-
  The code's consumers as one state; the document's example (done).
-/
import Derived.Test.YtnoiomaoignndaaCuf
namespace Go.Proofs.Ytnoiomaoignndaa
set_option linter.unusedVariables false
open Go.RowKit

variable {w0 w w' : World} {h : Nat} {l : List Cu}

theorem Kept.foC {O : Nat → Prop} {a b c : World} (k : Kept a b []) (f : Fo O b c) (hB : ∀ k, O k → a.heap.size ≤ k) : Kept a c [] :=
  ⟨f.os.trans k.os, f.tape.trans k.tape, f.output.trans k.output, Nat.le_trans k.size f.size, fun i hi _ => (f.block i (Nat.lt_of_lt_of_le hi k.size) (fun ho => by have := hB i ho; omega)).trans (k.block i hi (by simp))⟩

/-- Consumers of the call's own: all that there is to say of them. -/
def Cq (w0 w : World) (h : Nat) (l : List Cu) : Prop := OkC l ∧ ∃ V, Cc cuT cuE w w0.heap.size h V l ∧ Kept w0 w []

theorem Cq.keep (c : Cq w0 w h l) (k : Kept w w' []) : Cq w0 w' h l := by
  obtain ⟨ok, V, a, k0⟩ := c
  exact ⟨ok, V, a.keep k, k0.trans k (by simp)⟩
theorem Cq.kept (c : Cq w0 w h l) : Kept w0 w [] := by
  obtain ⟨ok, V, a, k0⟩ := c
  exact k0
theorem Cq.ok (c : Cq w0 w h l) : OkC l := c.1
theorem Cq.below (c : Cq w0 w h l) : Below w0.heap.size w0 w := c.kept.below (Nat.le_refl _) (by simp)

theorem cq_new (k : Kept w0 w []) : Calls Try.prog 10 #[] w fun e w' => ∃ h, e = .returned (.pointer (some ⟨h, 0, none⟩)) ∧ Cq w0 w' h [] := by
  refine (cnew_any w).mono ?_
  rintro e w' ⟨rfl, a, k1⟩
  exact ⟨_, rfl, OkC.nil, .slice none 0 0, ⟨a.hh, k.size, a.hT, OwnK.nil _ _ _⟩, k.trans k1 (by simp)⟩

theorem cq_chg (c : Cq w0 w h l) {V : Value} (a : Cc cuT cuE w w0.heap.size h V l) {r : Value} {m : List Cu} (ok : OkC m) {e : Ending} (p : ChgPost w w0.heap.size h V cuT cuE r m e w') : e = .returned r ∧ Cq w0 w' h m := by
  obtain ⟨rfl, V', a', s⟩ := p
  exact ⟨rfl, ok, V', a', c.kept.foC s.1 (fun k hk => (a.lt k hk).1)⟩

theorem cq_reg (c : Cq w0 w h l) (n : ByteArray) (at' : Int) : Calls Try.prog 12 #[.pointer (some ⟨h, 0, none⟩), .string n, .int .i64 at'] w fun e w' => e = .returned (.int .i64 (regE l n at')) ∧ Cq w0 w' h (regL l n at') := by
  obtain ⟨ok, V, a, k0⟩ := id c
  exact (creg_any a ok n at').mono (fun e w' p => cq_chg c a (ok.reg n at') p)
theorem cq_unr (c : Cq w0 w h l) (n : ByteArray) : Calls Try.prog 18 #[.pointer (some ⟨h, 0, none⟩), .string n] w fun e w' => e = .returned (.int .i64 (unrE l n)) ∧ Cq w0 w' h (unrL l n) := by
  obtain ⟨ok, V, a, k0⟩ := id c
  exact (cunr_any a ok n).mono (fun e w' p => cq_chg c a (ok.unr n) p)
theorem cq_opn (c : Cq w0 w h l) (n : ByteArray) (nx : Int) : Calls Try.prog 14 #[.pointer (some ⟨h, 0, none⟩), .string n, .int .i64 nx] w fun e w' => e = .returned (.int .i64 (opnE l n nx)) ∧ Cq w0 w' h (opnL l n nx) := by
  obtain ⟨ok, V, a, k0⟩ := id c
  exact (copn_any a ok n nx).mono (fun e w' p => cq_chg c a (ok.opn n nx) p)
theorem cq_fin (c : Cq w0 w h l) (n : ByteArray) : Calls Try.prog 16 #[.pointer (some ⟨h, 0, none⟩), .string n] w fun e w' => e = .returned (.tuple #[.int .i64 (finN l n), .int .i64 (finE l n)]) ∧ Cq w0 w' h (finL l n) := by
  obtain ⟨ok, V, a, k0⟩ := id c
  exact (cfin_any a ok n).mono (fun e w' p => cq_chg c a (ok.fin n) p)
theorem cq_get (c : Cq w0 w h l) (n : ByteArray) : Calls Try.prog 20 #[.pointer (some ⟨h, 0, none⟩), .string n] w fun e w' => e = .returned (getV l n) ∧ Kept w w' [] := by
  obtain ⟨ok, V, a, k0⟩ := id c
  exact cget_any a ok n
theorem cq_all (c : Cq w0 w h l) : Calls Try.prog 23 #[.pointer (some ⟨h, 0, none⟩)] w fun e w' => ∃ v', e = .returned v' ∧ OwnK encCu w' w.heap.size cuE v' l ∧ Kept w w' [] := by
  obtain ⟨ok, V, a, k0⟩ := id c
  exact call_any a (by have := ok.few; omega)
theorem cq_lea (c : Cq w0 w h l) : Calls Try.prog 24 #[.pointer (some ⟨h, 0, none⟩)] w fun e w' => e = .returned (.tuple #[.int .i64 (leaN l), .bool (decide (0 < l.length))]) ∧ Kept w w' [] := by
  obtain ⟨ok, V, a, k0⟩ := id c
  exact clea_any a (by have := ok.few; omega)

def nA : ByteArray := ⟨#[97]⟩
theorem regE_a : regE [] nA 3 = 0 ∧ regL [] nA 3 = [⟨nA, 3, 0⟩] ∧ opnE [⟨nA, 3, 0⟩] nA 5 = 0 ∧ opnL [⟨nA, 3, 0⟩] nA 5 = [⟨nA, 3, 5⟩] ∧ finN [⟨nA, 3, 5⟩] nA = 5 ∧ finE [⟨nA, 3, 5⟩] nA = 0 := by
  have hp : ∀ (a b : Int), plc [⟨nA, a, b⟩] nA = some 0 := fun a b => plc_hit (x := ⟨nA, a, b⟩) rfl (isN_iff.2 rfl) (fun j _ hj => absurd hj (Nat.not_lt_zero _))
  have hg : ∀ (a b : Int), getC [⟨nA, a, b⟩] nA = some ⟨nA, a, b⟩ := fun a b => getC_plc (hp a b) rfl
  have h1 : regE [] nA 3 = 0 := by rw [regE, if_neg (by decide)]; rfl
  refine ⟨h1, by rw [regL, if_pos h1]; rfl, ?_, ?_, ?_, ?_⟩
  · rw [opnE, hg]; rfl
  · rw [opnL, hp, hg]; rfl
  · rw [finN, hg]
  · rw [finE, hg]; rfl

set_option maxHeartbeats 2000000 in
set_option maxRecDepth 100000 in
theorem done_any (w : World) : Calls Try.prog 9 #[] w fun e w' => e = .returned (.bool true) ∧ Kept w w' [] := by
  obtain ⟨s1, s2, s3, s4, s5, s6⟩ := regE_a
  have S1 := Lib.hid s1; have S2 := Lib.hid s2; have S3 := Lib.hid s3; have S4 := Lib.hid s4; have S5 := Lib.hid s5; have S6 := Lib.hid s6
  clear s1 s2 s3 s4 s5 s6
  go_enter Try.func9, Try.ntmps9
  go_wp2_with fail
  refine (cq_new (Kept.refl w [])).mono ?_
  rintro e w1 ⟨h, rfl, c1⟩
  have C1 := Lib.hid c1; clear c1
  go_wp2_with fail
  refine (cq_reg C1.out nA 3).mono ?_
  rintro e w2 ⟨rfl, c2⟩
  rw [S2.out] at c2
  rw [S1.out]
  have C2 := Lib.hid c2; clear c2
  go_wp2_with fail
  refine (cq_opn C2.out nA 5).mono ?_
  rintro e w3 ⟨rfl, c3⟩
  rw [S4.out] at c3
  rw [S3.out]
  have C3 := Lib.hid c3; clear c3
  go_wp2_with fail
  refine (cq_fin C3.out nA).mono ?_
  rintro e w4 ⟨rfl, c4⟩
  rw [S5.out, S6.out]
  have C4 := Lib.hid c4; clear c4
  go_wp2
  go_ret
  exact ⟨rfl, C4.out.kept⟩

end Go.Proofs.Ytnoiomaoignndaa
