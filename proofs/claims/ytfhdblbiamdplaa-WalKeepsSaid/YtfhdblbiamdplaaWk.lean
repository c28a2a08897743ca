/-
  The contract of wal's lay.
-/
import Derived.Test.YtfhdblbiamdplaaWj
namespace Go.Proofs.Ytfhdblbiamdplaa
open Go.RowKit

/-- The types of the blocks that a log writes. -/
def lts : List TypeId := 100 :: dts

theorem Rb.from_ {w : World} {B bb bo c : Nat} {e : TypeId} {b : List UInt8} (h : Rb w B e (.slice (some ⟨bb, bo, none⟩) b.length c) b) (s : Nat) (hs : s ≤ b.length) (hc : b.length ≤ c) :
    Rb w B e (if c = s then .slice (some ⟨bb, bo, none⟩) 0 0 else .slice (some ⟨bb, bo + s, none⟩) (b.length - s) (c - s)) (b.drop s) := by
  by_cases h1 : c = s
  · rw [if_pos h1, drop_end (by omega)]
    exact ⟨_, 0, rfl, Nat.le_refl _, by simp, fun h => absurd rfl h⟩
  · rw [if_neg h1]
    by_cases h2 : s = b.length
    · rw [drop_end (by omega), show b.length - s = 0 by omega]
      exact ⟨_, _, rfl, Nat.zero_le _, by simp, fun h => absurd rfl h⟩
    · have := h.sub s (b.length - s) (c - s) (by omega) (by omega) (by omega)
      rwa [List.take_of_length_le (by simp)] at this

theorem take_splice {α : Type} (X B : List α) (off n : Nat) (h : off + B.length ≤ n) (hx : off ≤ X.length) : (splice X off B).take n = splice (X.take n) off B := by
  have e : (X.take off).length = off := by simp; omega
  rw [splice, splice, List.take_append, e, List.take_append, List.take_take, List.take_take, List.drop_take, Nat.min_eq_right (by omega), Nat.min_eq_left (by omega), List.take_of_length_le (l := B) (by omega)]
  congr 2
  congr 1
  omega

/-- Bytes copied into a slice of the call's own. -/
theorem own_copy {w w' : World} {B g n c : Nat} {e : TypeId} {l bs : List UInt8} {cur : Array Value} (h : Own w B e (.slice (some ⟨g, 0, none⟩) n c) l) (hg : w.heap[g]? = some (.cells cur e)) (off : Nat) (ho : off + bs.length ≤ l.length)
    (hg' : w'.heap[g]? = some (.cells (splice cur.toList off (bc bs)).toArray e (0, 0))) : Own w' B e (.slice (some ⟨g, 0, none⟩) n c) (splice l off bs) := by
  rcases h.2 with ⟨h1, _⟩ | ⟨g', cap, cur', hv, hbg, hg2, hnc, hcm, hcs, ht⟩
  · simp at h1
  · simp only [Value.slice.injEq, Option.some.injEq, Addr.mk.injEq] at hv
    obtain ⟨⟨rfl, _⟩, rfl, rfl⟩ := hv
    rw [hg] at hg2
    simp only [Option.some.injEq, Obj.cells.injEq] at hg2
    obtain ⟨rfl, _⟩ := hg2
    rw [Nat.mul_one] at hcs ht
    have hl : (splice l off bs).length = l.length := length_splice _ _ _ ho
    have hcl : (splice cur.toList off (bc bs)).length = cur.toList.length := length_splice _ _ _ (by rw [bc_length]; simp; omega)
    refine ⟨by rw [bc_length, Nat.mul_one], .inr ⟨g, c, _, by rw [hl], hbg, hg', by rw [hl]; exact hnc, hcm, by rw [List.size_toArray, hcl]; simpa using hcs, ?_⟩⟩
    rw [hl, Nat.mul_one, bc_splice, ← ht]
    exact take_splice _ _ _ _ (by rw [bc_length]; exact ho) (by simp; omega)

/-- What lay leaves. -/
def Laid (w : World) (B p gn gs n q s : Nat) (now safe L : List UInt8) (ws : List Wt) (w' : World) : Prop :=
  ∃ v' ws', Dv w' B p gn gs v' n (splice now s L) safe ws' ∧ pairs ws' = pairs ws ++ blks (splice now s L) (s / 32) (cnt s L.length) ∧ ws'.length = ws.length + cnt s L.length ∧ Lg w' q p (s + L.length) ∧ Fr B lts w w'

def lenV : Value → Nat
  | .slice _ n _ => n
  | _ => 0

set_option maxHeartbeats 4000000 in
set_option maxRecDepth 100000 in
theorem lay_any {w : World} {B p gn gs n q s : Nat} {v : Value} {now safe : List UInt8} {ws : List Wt} (D0 : Dv w B p gn gs v n now safe ws) (h : Lg w q p s) (vf : Value) (L : List UInt8) (hr : Rb w B 5 vf L) (hs : s + L.length ≤ 32 * n) (hws : ws.length ≤ 900000) (hB : B ≤ w.heap.size) (hq : B ≤ q) :
    Calls Try.prog 59 #[.pointer (some ⟨q, 0, none⟩), vf] w fun e w' => e = .returned (.tuple #[]) ∧ Laid w B p gn gs n q s now safe L ws w' := by
  have D := Lib.hid D0; have R := Lib.hid hr; have G := Lib.hid h
  have hn12 := D0.n12
  have hln := Lib.hid D0.ln
  have hLmax : L.length ≤ 131072 := by omega
  obtain ⟨a0, c0, rfl, hc0, _⟩ := hr
  clear D0 h
  go_enter Try.func59, Try.ntmps59
  go_wp2
  go_loopw [1] (fun t1 wr => ∃ (t n1 c1 : Nat) (a1 : Option Addr) (v' : Value) (ws' : List Wt), t1 = .slice a1 n1 c1 ∧ t ≤ L.length ∧ (t = 0 ∨ t = L.length ∨ (s + t) % 32 = 0) ∧ Rb wr B 5 (.slice a1 n1 c1) (L.drop t) ∧ Dv wr B p gn gs v' n (splice now s (L.take t)) safe ws' ∧ pairs ws' = pairs ws ++ blks (splice now s L) (s / 32) (cnt s t) ∧ ws'.length = ws.length + cnt s t ∧ Lg wr q p (s + t) ∧ Fr B lts w wr) (fun t1 _ => lenV t1)
  case atStart => exact ⟨0, _, _, _, v, ws, rfl, Nat.zero_le _, .inl rfl, by rw [List.drop_zero]; exact R.out, by rw [List.take_zero]; simpa [splice] using D.out, by simp [cnt, blks], by simp [cnt], by simpa using G.out, Fr.refl _ _ _⟩
  case round =>
    obtain ⟨t, n1, c1, a1, v', ws', rfl, htl, htc, hrb, hd, hpw, hlw, hg, hf⟩ := hrel
    have hn1 : n1 = L.length - t := by
      obtain ⟨_, _, e, _⟩ := hrb
      simp only [Value.slice.injEq, List.length_drop] at e
      omega
    have hcap : n1 ≤ c1 := by
      obtain ⟨_, _, e, h2, _⟩ := hrb
      simp only [Value.slice.injEq] at e
      obtain ⟨rfl, rfl, rfl⟩ := e
      exact h2
    have Rr := Lib.hid hrb; have Dr := Lib.hid hd; have Pw := Lib.hid hpw; have Gr := Lib.hid hg; have F := Lib.hid hf
    have hzr := hf.size
    obtain ⟨g0, g1⟩ := hg.cell
    clear hrb hd hpw hg hf
    by_cases ht : t < L.length
    · obtain ⟨ab, ao, ha, hab⟩ : ∃ ab ao, a1 = some ⟨ab, ao, none⟩ ∧ ab < wr.heap.size := by
        obtain ⟨_, _, e, _, _, hh⟩ := Rr.out
        simp only [Value.slice.injEq] at e
        obtain ⟨rfl, _, _⟩ := e
        have hne : L.drop t ≠ [] := by intro h0; have := congrArg List.length h0; simp at this; omega
        obtain ⟨ab, ao, e, _, hcl⟩ := hh hne
        exact ⟨ab, ao, e, World.block_lt_of_cell? _ _ (hcl 0 (List.length_pos_iff.2 hne))⟩
      subst ha
      obtain ⟨i, hi⟩ : ∃ i, i = (s + t) / 32 := ⟨_, rfl⟩
      obtain ⟨off, hoff⟩ : ∃ off, off = (s + t) % 32 := ⟨_, rfl⟩
      obtain ⟨m, hm⟩ : ∃ m, m = min (32 - off) (L.length - t) := ⟨_, rfl⟩
      have hio : 32 * i + off = s + t := by omega
      have ho32 : off < 32 := by omega
      have hin : i < n := by omega
      obtain ⟨u, hu⟩ : ∃ u, u = s + t := ⟨_, rfl⟩
      have e1 : (u : Int) / 32 = (i : Int) := by omega
      have e2 : (u : Int) % 32 = (off : Int) := by omega
      obtain ⟨st1, st2, st3⟩ := cnt_step (l := L.length) hio ho32 hm ht (by omega)
      have B1 := Lib.hid (put_blk hln.out hs ht hio ho32 hm)
      have B2 := Lib.hid (put_lay hln.out hs ht hio ho32 hm)
      have St := Lib.hid (And.intro st1 (And.intro st2 st3))
      have hm1 : 0 < m := by omega
      have hmn : m ≤ n1 := by omega
      have hmo : off + m ≤ 32 := by omega
      have Hm := Lib.hid hm
      rw [← hu] at g1
      have lF : (splice now s L).length = 32 * n := by rw [← put_all, splice_len (by have := hln.out; omega)]; exact hln.out
      have lT : (splice now s (L.take t)).length = 32 * n := by rw [splice_len (by have := hln.out; omega)]; exact hln.out
      have bF := Lib.hid (blkOf_length _ n i lF hin)
      have bT := Lib.hid (blkOf_length _ n i lT hin)
      have hcnt : cnt s t ≤ 4096 := by unfold cnt; split <;> omega
      have Hn1 := Lib.hid hn1; have Hio := Lib.hid hio; have Hu := Lib.hid hu
      have hpos1 : 0 < n1 := by omega
      clear hi hoff hm st1 st2 st3 lF lT hn1 hio hu htc
      go_wp2_with fail
      refine (read_ok Dr.out i hin).mono ?_
      rintro e w2 ⟨v2, rfl, ho, hk⟩
      have O2 := Lib.hid ho; have F2 := Lib.hid (F.out.trans (Fr.ofKept hk _ _)); have K2 := Lib.hid hk
      have D2 := Lib.hid (Dr.out.frame (Fr.ofKept hk 0 []) (by simp) (by simp) (by simp))
      have G2 := Lib.hid (Gr.out.frame (Fr.ofKept hk 0 []) (by simp))
      have R2 := Lib.hid (Rr.out.frame (Fr.ofKept hk B []) (Nat.le_refl _) (by simp))
      have hz2 := hk.size
      rcases ho.2 with ⟨_, h0⟩ | ⟨g, cap, cur, hv, hbg, hgc, hnc, hcm, hcs, htk⟩
      · exact absurd h0 (by rw [bT.out]; decide)
      rw [bT.out] at hv hnc
      subst hv
      have Cur := Lib.hid hgc
      have hcur32 : 32 ≤ cur.toList.length := by simp; omega
      clear ho hk hgc htk
      obtain ⟨g0, g1⟩ := G2.out.cell
      rw [← Hu.out] at g1
      have x1 : (off : Int) ≤ 32 := by omega
      have x2 : (32 : Int) ≤ (cap : Int) := by omega
      have x3 : ¬ cap = off := by omega
      go_wp2_with (refine wpList_copy_fr w2 rfl (.tmp 31) (.tmp 32) 36 36 rfl 5 Try.underlying36 Try.size5 _ _ _ _ _ _ rfl rfl g off cur.toList 5 (by simpa using Cur.out) (bc ((L.drop t).take m)) ?hn ?hpos ?hfit ?h1 ?next)
      case hn => have h1 := Hm.out; have h2 := Hn1.out; rw [bc_length]; show _ = min _ _; simp; omega
      case hpos =>
        intro _
        obtain ⟨_, _, e, _, _, hh⟩ := R2.out
        simp only [Value.slice.injEq] at e
        obtain ⟨rfl, _, rfl⟩ := e
        obtain ⟨ab', ao', e, _, hcl⟩ := hh (by intro h0; have := congrArg List.length h0; simp at this; omega)
        simp only [Option.some.injEq, Addr.mk.injEq, and_true] at e
        obtain ⟨rfl, rfl⟩ := e
        have f : ∀ j v, (bc ((L.drop t).take m))[j]? = some v → w2.cell? ⟨ab, ao + j, none⟩ = some v := fun j v hv => by
          obtain ⟨hj, rfl⟩ := bc_get _ j v hv
          rw [List.length_take] at hj
          rw [hcl j (by omega)]
          simp only [List.getD]
          rw [List.getElem?_take, if_pos (by omega)]
        first | exact f | exact ⟨rfl, _, rfl, f⟩ | exact ⟨_, rfl, f⟩ | (simpa only [Addr.add_lit] using f)
      case hfit => rw [bc_length, List.length_take]; omega
      case h1 => exact bc_one _
      case next =>
        intro w3 Hg3 hf3 hk3
        have lcs : ((L.drop t).take m).length = m := by have := Hn1.out; simp; omega
        have el : (bc ((L.drop t).take m)).length = m := by rw [bc_length, lcs]
        have o3 := own_copy O2.out Cur.out off (by rw [bT.out, lcs]; omega) Hg3.out
        rw [B1.out] at o3
        have O3 := Lib.hid o3
        have F3 := Lib.hid (F2.out.later hf3 (by omega))
        have D3 := Lib.hid (D2.out.frame hf3 (by decide) (by decide) (by decide))
        have G3 := Lib.hid (G2.out.frame hf3 (by decide))
        have R3 := Lib.hid (R2.out.kept hk3 (by intro b hb; simp [Value.ownBlock] at hb; simp; omega))
        have hz3 := hk3.size
        obtain ⟨g0, g1⟩ := G3.out.cell
        rw [← Hu.out] at g1
        clear o3 hf3 hk3 Hg3 lcs
        go_wp2_with fail
        refine (write_ok D3.out i hin _ (blkOf (splice now s L) i) (by rw [bF.out]; omega) (O3.out.rb B) (by omega) (by omega)).mono ?_
        rintro e w4 ⟨rfl, v4, hd, hf⟩
        rw [B2.out] at hd
        have D4 := Lib.hid hd; have F4 := Lib.hid (F3.out.trans (hf.mono (Nat.le_refl _) (fun x hx => List.mem_cons_of_mem _ hx)))
        have G4 := Lib.hid (G3.out.frame hf (by decide)); have R4 := Lib.hid (R3.out.frame hf (Nat.le_refl _) (by decide))
        obtain ⟨y, hy⟩ : ∃ y, y = s + (t + m) := ⟨_, rfl⟩
        have e3 : (u : Int) + (m : Int) = (y : Int) := by have := Hu.out; omega
        have Hy := Lib.hid hy
        have ws5 := Lib.hid (show pairs (ws' ++ [⟨i, (blkOf (splice now s L) i).length, splice (noughts 1) 0 (blkOf (splice now s L) i)⟩]) = pairs ws ++ blks (splice now s L) (s / 32) (cnt s (t + m)) by
          rw [pairs_snoc, Pw.out, St.out.2.1, blks_succ, St.out.1, List.append_assoc])
        have G5 := Lib.hid (show Lg (w4.setCell ⟨q, 1, none⟩ (.int .i64 y)) q p (s + (t + m)) by
          have := heap_setCell_at G4.out 1 (.int .i64 (y : Int))
          rw [← hy]
          simpa [Lg] using this)
        have f5 : Fr B [100] w4 (w4.setCell ⟨q, 1, none⟩ (.int .i64 y)) := (Fr.refl B _ w4).setCell G4.out (.inr ⟨hq, by simp⟩) 1 _
        have D5 := Lib.hid (D4.out.frame f5 (by decide) (by decide) (by decide))
        have F5 := Lib.hid (F4.out.trans (f5.mono (Nat.le_refl _) (by simp [lts])))
        have en : n1 = (L.drop t).length := by rw [List.length_drop]; exact Hn1.out
        have r5 : Rb (w4.setCell ⟨q, 1, none⟩ (.int .i64 y)) B 5 (if c1 = m then .slice (some ⟨ab, ao, none⟩) 0 0 else .slice (some ⟨ab, ao + m, none⟩) (n1 - m) (c1 - m)) (L.drop (t + m)) := by
          have h := R4.out.frame f5 (Nat.le_refl _) (by decide)
          rw [en] at h hcap hmn ⊢
          have := h.from_ m hmn hcap
          rwa [List.drop_drop] at this
        have R5 := Lib.hid r5
        have f0 : w4.frozen? ⟨q, 1, none⟩ = false := frozen_of_row _ _ _ _ _ G4.out
        obtain ⟨g0, g1⟩ := G4.out.cell
        rw [← Hu.out] at g1
        have x6 : (m : Int) ≤ (n1 : Int) := by omega
        have x7 : (n1 : Int) ≤ (c1 : Int) := by omega
        have htm : t + m ≤ L.length := by have := Hn1.out; omega
        have fin := Lib.hid (show t + m = 0 ∨ t + m = L.length ∨ (s + (t + m)) % 32 = 0 from .inr St.out.2.2)
        have lw := Lib.hid (show (ws' ++ [⟨i, (blkOf (splice now s L) i).length, splice (noughts 1) 0 (blkOf (splice now s L) i)⟩] : List Wt).length = ws.length + cnt s (t + m) by rw [List.length_append, hlw, St.out.2.1]; rfl)
        clear hd hf hy f5 en r5
        by_cases hcm' : c1 = m
        · rw [if_pos hcm'] at R5
          have x8 : n1 ≤ m := by omega
          subst hcm'
          go_wp2
          go_roundw
          case rel => exact ⟨t + c1, _, _, _, v4, _, rfl, htm, fin.out, R5.out, D5.out, ws5.out, lw.out, G5.out, F5.out⟩
          case measure => simp [lenV]; omega
        · rw [if_neg hcm'] at R5
          go_wp2
          go_roundw
          case rel => exact ⟨t + m, _, _, _, v4, _, rfl, htm, fin.out, R5.out, D5.out, ws5.out, lw.out, G5.out, F5.out⟩
          case measure => simp [lenV]; omega
    · obtain rfl : t = L.length := by omega
      have h0 : n1 = 0 := by omega
      subst h0
      rw [List.take_length] at Dr
      clear hn1
      go_wp2
      go_end0
      exact ⟨rfl, v', ws', Dr.out, Pw.out, hlw, Gr.out, F.out⟩

end Go.Proofs.Ytfhdblbiamdplaa
