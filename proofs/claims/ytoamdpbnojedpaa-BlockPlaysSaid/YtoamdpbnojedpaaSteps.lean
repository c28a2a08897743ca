/-
  Write and Put at any block's number and any bytes, as one contract each; what a list of writes then is.
-/
import Derived.Test.YtoamdpbnojedpaaArgs
import Derived.Test.YtoamdpbnojedpaaRefPut
namespace Go.Proofs.Ytoamdpbnojedpaa
open Go.RowKit

/-- May it be written? -/
def okW (n : Nat) (m : Int) (l : List UInt8) : Bool := decide (0 ≤ m ∧ m < (n : Int) ∧ l.length ≤ 32)
/-- The error that is told. -/
def rcW (b : Bool) : Int := if b then 0 else 1
def nowW (n : Nat) (m : Int) (l now : List UInt8) : List UInt8 := if okW n m l then lay now m.toNat l else now
def wsW (n : Nat) (m : Int) (l : List UInt8) (ws : List Wt) : List Wt := if okW n m l then ws ++ [⟨m.toNat, l.length, splice (noughts 1) 0 l⟩] else ws
def prW (n : Nat) (m : Int) (l : List UInt8) (ws : List (Nat × List UInt8)) : List (Nat × List UInt8) := if okW n m l then ws ++ [(m.toNat, l)] else ws

theorem pairs_wsW (n : Nat) (m : Int) (l : List UInt8) (ws : List Wt) : pairs (wsW n m l ws) = prW n m l (pairs ws) := by
  unfold wsW prW
  split
  · rw [pairs_snoc]
  · rfl

theorem nowW_laid (n : Nat) (m : Int) (l now safe : List UInt8) (ws : List Wt) (h : now = laid safe (pairs ws)) : nowW n m l now = laid safe (pairs (wsW n m l ws)) := by
  rw [pairs_wsW]
  unfold nowW prW
  split
  · rw [laid_snoc, ← h]
  · exact h

theorem wsW_length (n : Nat) (m : Int) (l : List UInt8) (ws : List Wt) : (wsW n m l ws).length ≤ ws.length + 1 := by
  unfold wsW
  split
  · simp
  · omega

theorem write_step {w : World} {B p gn gs n : Nat} {v : Value} {now safe : List UInt8} {ws : List Wt} (h : Dv w B p gn gs v n now safe ws) (m : Int) (vp : Value) (l : List UInt8)
    (hr : Rb w B 5 vp l) (hws : ws.length ≤ 1000000) (hB : B ≤ w.heap.size) :
    Calls Try.prog 14 #[.pointer (some ⟨p, 0, none⟩), .int .i64 m, vp] w fun e w' => e = .returned (.int .i64 (rcW (okW n m l))) ∧
      ∃ v', Dv w' B p gn gs v' n (nowW n m l now) safe (wsW n m l ws) ∧ Fr B dts w w' := by
  by_cases hk : 0 ≤ m ∧ m < (n : Int) ∧ l.length ≤ 32
  · have ho : okW n m l = true := by unfold okW; simpa using hk
    obtain ⟨k, rfl⟩ : ∃ k : Nat, m = k := ⟨m.toNat, by omega⟩
    refine (write_ok h k (by omega) vp l hk.2.2 hr hws hB).mono ?_
    rintro e w' ⟨rfl, v', hd, hf⟩
    unfold nowW wsW
    rw [ho]
    exact ⟨rfl, v', hd, hf⟩
  · have ho : okW n m l = false := by unfold okW; simpa using hk
    obtain ⟨a, c, rfl, _⟩ := hr
    refine (write_bad h m a l.length c (by omega)).mono ?_
    rintro e w' ⟨rfl, rfl⟩
    unfold nowW wsW
    rw [ho]
    exact ⟨rfl, v, h, Fr.refl _ _ _⟩

theorem rput_step {w : World} {B q n : Nat} {vs vw : Value} {safe : List UInt8} {ws : List (Nat × List UInt8)} (R : Rf w B q vs vw n safe ws) (m : Int) (vp : Value) (l : List UInt8)
    (hr : Rd w vp l) (hws : ws.length ≤ 1000000) (hB : B ≤ w.heap.size) :
    Calls Try.prog 15 #[.pointer (some ⟨q, 0, none⟩), .int .i64 m, vp] w fun e w' => e = .returned (.int .i64 (rcW (okW n m l))) ∧ ∃ v', Rf w' B q vs v' n safe (prW n m l ws) ∧ Fr B rts w w' := by
  by_cases hk : 0 ≤ m ∧ m < (n : Int) ∧ l.length ≤ 32
  · have ho : okW n m l = true := by unfold okW; simpa using hk
    obtain ⟨k, rfl⟩ : ∃ k : Nat, m = k := ⟨m.toNat, by omega⟩
    refine (rput_ok R k (by omega) vp l hk.2.2 hr hws hB).mono ?_
    rintro e w' ⟨rfl, v', hd, hf⟩
    unfold prW
    rw [ho]
    exact ⟨rfl, v', hd, hf⟩
  · have ho : okW n m l = false := by unfold okW; simpa using hk
    obtain ⟨a, c, rfl, _⟩ := hr
    refine (rput_bad R m a l.length c (by omega)).mono ?_
    rintro e w' ⟨rfl, rfl⟩
    unfold prW
    rw [ho]
    exact ⟨rfl, vw, R, Fr.refl _ _ _⟩

theorem Rf.lower {w : World} {B B' q n : Nat} {vs vw : Value} {safe : List UInt8} (h : Rf w B q vs vw n safe []) (hB : B' ≤ B) : Rf w B' q vs vw n safe [] := by
  obtain ⟨xs, h1, h2⟩ := h.hw
  refine { h with hs := h.hs.mono hB, hw := ⟨xs, ⟨h1.1, ?_⟩, h2.1, fun i _ h4 => absurd h4 (by simp)⟩, bq := Nat.le_trans hB h.bq }
  rcases h1.2 with h3 | ⟨g, cap, cur, rfl, hbg, r⟩
  · exact .inl h3
  · exact .inr ⟨g, cap, cur, rfl, by omega, r⟩

theorem RbB.mono {w : World} {B B' : Nat} {e : TypeId} {v : Value} {l : List Bool} (h : RbB w B e v l) (hB : B ≤ B') : RbB w B' e v l := by
  obtain ⟨a, c, rfl, hl⟩ := h
  refine ⟨a, c, rfl, fun hne => ?_⟩
  obtain ⟨b, o, rfl, hb, hcell⟩ := hl hne
  exact ⟨b, o, rfl, hb.imp (fun h => by omega) id, hcell⟩

theorem tmod_bd (I : Int) (k : Nat) (hk : 0 < k) : -(k : Int) < I.tmod k ∧ I.tmod k < k := by
  by_cases h : I < 0
  · have h1 : I.tmod k = -((-I).tmod k) := by rw [Int.neg_tmod]; omega
    have h2 := Int.tmod_lt_of_pos (-I) (show (0 : Int) < k by omega)
    have h3 := Int.tmod_nonneg (k : Int) (show 0 ≤ -I by omega)
    omega
  · have h2 := Int.tmod_lt_of_pos I (show (0 : Int) < k by omega)
    have h3 := Int.tmod_nonneg (k : Int) (show 0 ≤ I by omega)
    omega

end Go.Proofs.Ytoamdpbnojedpaa
