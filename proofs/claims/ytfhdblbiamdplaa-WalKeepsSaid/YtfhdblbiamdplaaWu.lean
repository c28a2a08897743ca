/-
  A log and the document's side by side: what holds of both ('Wp'), and what each step makes of it.
-/
import Derived.Test.YtfhdblbiamdplaaWt
namespace Go.Proofs.Ytfhdblbiamdplaa
open Go.RowKit

theorem kept_fr {a b c : World} {ts : List TypeId} (h : Kept a b []) (hf : Fr a.heap.size ts b c) : Kept a c [] := (((Fr.ofKept h a.heap.size []).later hf (Nat.le_refl _))).kept

theorem szs_len : ∀ (L : List (List UInt8)), L.length ≤ szs L ∧ ∀ x ∈ L, x.length ≤ szs L
  | [] => ⟨Nat.zero_le _, fun x hx => by simp at hx⟩
  | y :: r => by
    obtain ⟨h1, h2⟩ := szs_len r
    have e : szs (y :: r) = 6 + y.length + szs r := by simp [szs]
    rw [e]
    refine ⟨by simp; omega, fun x hx => ?_⟩
    rcases List.mem_cons.1 hx with rfl | hx
    · omega
    · have := h2 x hx; omega

/-- A log at block lg of the device p, and the document's at rl of q: the same blocks, the same writes that wait, as many bytes of frames; m: a bound of how many wait. -/
structure Wp (w1 wx : World) (p gn gs q n lg rl : Nat) (now safe : List UInt8) (ws : List Wt) (v vs vw : Value) (s m : Nat) : Prop where
  D : Dv wx w1.heap.size p gn gs v n now safe ws
  R : Rf wx w1.heap.size q vs vw n safe (pairs ws)
  N : now = laid safe (pairs ws)
  G : Lg wx lg p s
  H : RLg wx rl q s
  hs : s ≤ 32 * n
  bl : w1.heap.size ≤ lg
  br : w1.heap.size ≤ rl
  hm : ws.length ≤ m
  K : Kept w1 wx []

theorem Wp.keep {w1 wx wy : World} {p gn gs q n lg rl s m : Nat} {now safe : List UInt8} {ws : List Wt} {v vs vw : Value} (h : Wp w1 wx p gn gs q n lg rl now safe ws v vs vw s m) (hk : Kept wx wy []) : Wp w1 wy p gn gs q n lg rl now safe ws v vs vw s m :=
  { h with D := h.D.frame (Fr.ofKept hk 0 []) (by simp) (by simp) (by simp), R := h.R.frame (Fr.ofKept hk w1.heap.size []) (Nat.le_refl _) (by simp) (by simp) (by simp), G := h.G.frame (Fr.ofKept hk 0 []) (by simp), H := h.H.frame (Fr.ofKept hk 0 []) (by simp), K := h.K.trans hk (by simp) }

theorem Wp.size {w1 wx : World} {p gn gs q n lg rl s m : Nat} {now safe : List UInt8} {ws : List Wt} {v vs vw : Value} (h : Wp w1 wx p gn gs q n lg rl now safe ws v vs vw s m) : w1.heap.size ≤ wx.heap.size := h.K.size

/-- Append of both. -/
theorem Wp.append {w1 wx w2 w3 : World} {p gn gs q n lg rl s m : Nat} {now safe l : List UInt8} {ws : List Wt} {v vs vw : Value} (h : Wp w1 wx p gn gs q n lg rl now safe ws v vs vw s m)
    (h1 : App wx w1.heap.size p gn gs n lg s now safe l ws w2) (h2 : RApp w2 w1.heap.size q n rl s vs now safe l (pairs ws) w3) :
    ∃ now' ws' v' vw' s', Wp w1 w3 p gn gs q n lg rl now' safe ws' v' vs vw' s' (m + n) := by
  obtain ⟨v', ws', hd, hp, hl, hg, hf⟩ := h1
  obtain ⟨vw', hr, hh, hf2⟩ := h2
  refine ⟨_, ws', v', vw', _, { D := hd.frame hf2 (by decide) (by decide) (by decide), R := by rw [hp]; exact hr, N := ?_, G := hg.frame hf2 (by decide), H := hh, hs := asz_le l h.hs, bl := h.bl, br := h.br, hm := ?_, K := kept_fr (kept_fr h.K hf) hf2 }⟩
  · rw [hp, laid_append, ← h.N, anow_laid h.D.ln]
  · have := ablk_len n s l now; have := h.hm; omega

/-- Sync of both. -/
theorem Wp.sync {w1 wx w2 w3 : World} {p gn gs q n lg rl s m : Nat} {now safe : List UInt8} {ws : List Wt} {v vs vs' vw : Value} (h : Wp w1 wx p gn gs q n lg rl now safe ws v vs vw s m)
    (hd : Dv w2 w1.heap.size p gn gs (.slice none 0 0) n now (carry now (ws.map Wt.blk) safe) []) (hf : Fr w1.heap.size dts wx w2) (hr : Rf w3 w1.heap.size q vs' (.slice none 0 0) n (laid safe (pairs ws)) []) (hf2 : Fr w1.heap.size rts w2 w3) :
    Wp w1 w3 p gn gs q n lg rl now now [] (.slice none 0 0) vs' (.slice none 0 0) s m := by
  rw [sync_safe n safe now ws h.D.ls h.D.hw h.N] at hd
  rw [← h.N] at hr
  exact { D := hd.frame hf2 (by decide) (by decide) (by decide), R := hr, N := rfl, G := (h.G.frame hf (by decide)).frame hf2 (by decide), H := (h.H.frame hf (by decide)).frame hf2 (by decide), hs := h.hs, bl := h.bl, br := h.br, hm := Nat.zero_le _, K := kept_fr (kept_fr h.K hf) hf2 }

/-- What a crash leaves of the blocks. -/
def crashed (lost : List Bool) (torn : Int) (ws : List Wt) (safe : List UInt8) : List UInt8 := laid safe (left lost torn ws.length 0 (pairs ws))

theorem crashed_safe (lost : List Bool) (torn : Int) (ws : List Wt) (safe : List UInt8) : safeTo lost torn ws safe ws.length = crashed lost torn ws safe := by
  rw [safeTo, crashed, List.take_of_length_le (by simp [pairs])]

/-- Both devices behind a crash. -/
theorem Wp.crash {w1 wx w2 w3 : World} {p gn gs q n lg rl s m : Nat} {now safe : List UInt8} {ws : List Wt} {v vs vs' vw : Value} {lost : List Bool} {torn : Int} (h : Wp w1 wx p gn gs q n lg rl now safe ws v vs vw s m)
    (hd : Dv w2 w1.heap.size p gn gs (.slice none 0 0) n (carry (safeTo lost torn ws safe ws.length) (ws.map Wt.blk) now) (safeTo lost torn ws safe ws.length) []) (hf : Fr w1.heap.size dts wx w2)
    (hr : Rf w3 w1.heap.size q vs' (.slice none 0 0) n (laid safe (left lost torn (pairs ws).length 0 (pairs ws))) []) (hf2 : Fr w1.heap.size rts w2 w3) :
    Dv w3 w1.heap.size p gn gs (.slice none 0 0) n (crashed lost torn ws safe) (crashed lost torn ws safe) [] ∧ Rf w3 w1.heap.size q vs' (.slice none 0 0) n (crashed lost torn ws safe) [] ∧ Kept w1 w3 [] := by
  rw [crashed_safe] at hd
  rw [crashed, crash_now n safe now ws lost torn h.D.ls h.D.hw h.N, ← crashed] at hd
  have e : (pairs ws).length = ws.length := by simp [pairs]
  rw [e, ← crashed] at hr
  exact ⟨hd.frame hf2 (by decide) (by decide) (by decide), hr, kept_fr (kept_fr h.K hf) hf2⟩

/-- Both opened, on devices of the same blocks on which none waits. -/
theorem Wp.opened {w1 w2 w3 w4 : World} {p gn gs q n lg rl : Nat} {X : List UInt8} {vs vr vr2 : Value} (hK : Kept w1 w2 []) (hR : Rf w3 w1.heap.size q vs (.slice none 0 0) n X [])
    (h1 : Opened w2 w1.heap.size p gn gs n X X [] lg vr w3) (h2 : ROpened w3 w1.heap.size q n X X [] rl vr2 w4) :
    (∃ now safe v vs' vw', Wp w1 w4 p gn gs q n lg rl now safe [] v vs' vw' (szs (scan X)) 0) ∧ RowsR w4 w2.heap.size 0 vr (scan X) ∧ RowsR w4 w3.heap.size 0 vr2 (scan X) := by
  obtain ⟨v', safe', ws', hd, hl, ha, hb, hf, hg, hq, hrow⟩ := h1
  obtain ⟨vs2, vw2, safe2, ws2, hr, hl2, ha2, hb2, hf2, hg2, hq2, hrow2⟩ := h2
  have hlen : X.length = 32 * n := hR.ls
  have hsz : szs (scan X) ≤ 32 * n := by have := szs_scan X.length X (Nat.le_refl _); omega
  have hz := hK.size
  have hz2 := hf.size
  have key : safe2 = safe' ∧ ws' = [] ∧ ws2 = [] := by
    by_cases e : X = clr X
    · obtain ⟨e1, e2⟩ := ha e
      obtain ⟨e3, e4⟩ := ha2 e
      exact ⟨by rw [e1, e3], e2, e4⟩
    · obtain ⟨e1, e2⟩ := hb e
      obtain ⟨e3, e4⟩ := hb2 e
      exact ⟨by rw [e1, e3], e2, e4⟩
  obtain ⟨rfl, rfl, rfl⟩ := key
  refine ⟨⟨clr X, safe2, v', vs2, vw2, { D := hd.frame hf2 (by decide) (by decide) (by decide), R := hr, N := hl, G := hg.frame hf2 (by decide), H := hg2, hs := hsz, bl := by omega, br := by omega, hm := Nat.le_refl _, K := kept_fr (kept_fr hK hf) hf2 }⟩, ?_, hrow2⟩
  exact hrow.frame hf2 (Nat.zero_le _) (by decide) (by decide)

theorem rf_lower {w : World} {B B' q n : Nat} {vs vw : Value} {safe : List UInt8} (h : Rf w B q vs vw n safe []) (hB : B' ≤ B) : Rf w B' q vs vw n safe [] := by
  obtain ⟨xs, h1, h2⟩ := h.hw
  refine { h with hs := h.hs.mono hB, hw := ⟨xs, ⟨h1.1, ?_⟩, h2.1, fun i _ h4 => absurd h4 (by simp)⟩, bq := Nat.le_trans hB h.bq }
  rcases h1.2 with h3 | ⟨g, cap, cur, rfl, hbg, r⟩
  · exact .inl h3
  · exact .inr ⟨g, cap, cur, rfl, by omega, r⟩

theorem RbB.mono {w : World} {B B' : Nat} {e : TypeId} {v : Value} {l : List Bool} (h : RbB w B e v l) (hB : B ≤ B') : RbB w B' e v l := by
  obtain ⟨a, c, rfl, hl⟩ := h
  refine ⟨a, c, rfl, fun hne => ?_⟩
  obtain ⟨b, o, rfl, hb, hcell⟩ := hl hne
  exact ⟨b, o, rfl, hb.imp (fun h => by omega) id, hcell⟩

end Go.Proofs.Ytfhdblbiamdplaa
