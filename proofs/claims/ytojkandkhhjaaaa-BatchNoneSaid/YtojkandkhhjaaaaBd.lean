/-
  A manager told by what its State answers; between.
-/
import Derived.Test.YtojkandkhhjaaaaBc
import Derived.Test.YtojkandkhhjaaaaTi
import Derived.Deep.RegionHeld3
namespace Go.Proofs.Ytojkandkhhjaaaa
set_option linter.unusedVariables false
open Go.RowKit Go.Maps

/-- Whoever asks u what has become of a transaction is told by st. -/
def Man (w : World) (u : Value) (st : List Nat) : Prop :=
  ∀ (x : Int) (W : World), (Lit.int .i64 x).wf = true → Kept w W [] → Calls Try.prog 28 #[u, .int .i64 x] W fun e w' => e = .returned (.int .u8 (stAt st x)) ∧ W = w'
theorem Man.keep {w w' : World} {u : Value} {st : List Nat} (h : Man w u st) (k : Kept w w' []) : Man w' u st := fun x W hx hk => h x W hx (k.trans hk (by simp))
theorem Man.none (w : World) : Man w (.pointer none) [] := fun x W _ _ => (mstate_nil x W).mono fun e w' ⟨h1, h2⟩ => ⟨by rw [h1]; simp [stAt], h2⟩
theorem Mg.man {w : World} {B p b : Nat} {v : Value} {st : List Nat} (h : Mg w B p b v st) : Man w (.pointer (some ⟨p, 0, .none⟩)) st := fun x W hx hk => mstate_any (h.keep hk) x hx

/-- The same of the document's manager. -/
def RMan (w : World) (u : Value) (st : List Nat) : Prop :=
  ∀ (x : Int) (W : World), Kept w W [] → Calls Try.prog 34 #[u, .int .i64 x] W fun e w' => e = .returned (.int .u8 (stAt st x)) ∧ W = w'
theorem RMan.keep {w w' : World} {u : Value} {st : List Nat} (h : RMan w u st) (k : Kept w w' []) : RMan w' u st := fun x W hk => h x W (k.trans hk (by simp))
theorem Rm.man {w : World} {B q : Nat} {v : Value} {st : List Nat} (h : Rm w B q v st) : RMan w (.pointer (some ⟨q, 0, .none⟩)) st := fun x W hk => rstate_any (h.keep hk) x

/-- Of whom the later one sees, and the earlier one doesn't. -/
def betw (A : Int) (la : List Int) (B : Int) (lb : List Int) (x : Int) : Bool := seesB B lb x && !seesB A la x

set_option maxHeartbeats 400000 in
theorem between_any (x A B : Int) (va vb : Value) (la lb : List Int) (w : World) (ha : RdI w va la) (hb : RdI w vb lb) :
    Calls Try.prog 29 #[.int .i64 x, .agg #[.int .i64 A, va], .agg #[.int .i64 B, vb]] w fun e w' => e = .returned (.bool (betw A la B lb x)) ∧ Kept w w' [] := by
  have Ha := Lib.hid ha; have Hb := Lib.hid hb
  obtain ⟨a, c, rfl, _, _, _, _⟩ := ha
  obtain ⟨b, d, rfl, _, _, _, _⟩ := hb
  obtain ⟨p, hp⟩ : ∃ p, seesB B lb x = p := ⟨_, rfl⟩
  obtain ⟨q, hq⟩ : ∃ q, seesB A la x = q := ⟨_, rfl⟩
  have HP := Lib.hid hp; have HQ := Lib.hid hq
  have R : RowKit.Hid (betw A la B lb x = (p && !q)) := Lib.hid (by unfold betw; rw [hp, hq])
  rw [R.out]
  have h1 : ∀ W, Kept w W [] → Calls Try.prog 39 #[.agg #[.int .i64 B, .slice b lb.length d], .int .i64 x] W fun e w' => e = .returned (.bool p) ∧ Kept W w' [] := fun W k => by
    have := sees_any B x _ lb W (Hb.out.keep k)
    rw [HP.out] at this
    exact this
  have h2 : ∀ W, Kept w W [] → Calls Try.prog 39 #[.agg #[.int .i64 A, .slice a la.length c], .int .i64 x] W fun e w' => e = .returned (.bool q) ∧ Kept W w' [] := fun W k => by
    have := sees_any A x _ la W (Ha.out.keep k)
    rw [HQ.out] at this
    exact this
  have H1 := Lib.hid h1; have H2 := Lib.hid h2
  clear h1 h2 hp hq
  obtain ⟨W1, hW1⟩ : ∃ W1, W1 = (w.alloc (.cells #[.int .i64 A, .slice a la.length c] 31)).alloc (.cells #[.int .i64 B, .slice b lb.length d] 31) := ⟨_, rfl⟩
  have k1 : Kept w W1 [] := by rw [hW1]; exact ((Kept.refl w []).alloc _).alloc _
  have g1 : W1.heap[w.heap.size]? = some (.cells #[.int .i64 A, .slice a la.length c] 31 (0, 0)) := by rw [hW1]; exact ((Kept.refl _ []).alloc _).heap (by simp) (heap_alloc_new w _)
  have HW := Lib.hid hW1; have K1 := Lib.hid k1; have G1 := Lib.hid g1
  clear hW1 k1 g1
  cases p
  · go_enter Try.func29, Try.ntmps29
    go_wp2_with fail
    rw [← HW.out]
    refine (H1.out _ K1.out).mono ?_
    rintro e w2 ⟨rfl, k2⟩
    go_wp2
    go_ret
    exact ⟨rfl, K1.out.trans k2 (by simp)⟩
  · go_enter Try.func29, Try.ntmps29
    go_wp2_with fail
    rw [← HW.out]
    refine (H1.out _ K1.out).mono ?_
    rintro e w2 ⟨rfl, k2⟩
    have K2 := Lib.hid k2
    obtain ⟨c0, c1⟩ := two_cells (k2.heap (by simp) G1.out)
    clear k2
    go_wp2_with fail
    refine (H2.out _ (K1.out.trans K2.out (by simp))).mono ?_
    rintro e w3 ⟨rfl, k3⟩
    have K3 := Lib.hid k3
    clear k3
    go_wp2
    go_ret
    exact ⟨by simp, K1.out.trans (K2.out.trans K3.out (by simp)) (by simp)⟩

end Go.Proofs.Ytojkandkhhjaaaa
