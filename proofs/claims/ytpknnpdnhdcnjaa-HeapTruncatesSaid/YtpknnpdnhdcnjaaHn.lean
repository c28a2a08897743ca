/-
  Redo, of one operation at most; Get.
-/
import Derived.Test.YtpknnpdnhdcnjaaHm
namespace Go.Proofs.Ytpknnpdnhdcnjaa
open Go.RowKit Go.Maps

/-- An operation: is the row gone; the row. -/
structure Opn where
  gone : Bool
  key : Int
  txt : ByteArray

def ocl (l : List Opn) : List Value := l.flatMap fun o => [.bool o.gone, .int .i64 o.key, .string o.txt]

/-- What was alive dies by x. -/
def redoD (st : List Nat) (x : Int) (key : Int) (F : Int → List Vr) : Int → List Vr := match (F key).findIdx? (alive st) with
  | some i => updF F key (dieAt (F key) i x)
  | none => F

/-- Redo, of one operation. -/
def redoK (o : Opn) (ks : List Int) : List Int := if o.gone then ks else insK o.key ks
def redoF (st : List Nat) (x : Int) (o : Opn) (F : Int → List Vr) : Int → List Vr :=
  if o.gone then redoD st x o.key F else updF (redoD st x o.key F) o.key (redoD st x o.key F o.key ++ [⟨o.txt, x, 0⟩])

/-- .. of one at most. -/
def redoKs (l : List Opn) (ks : List Int) : List Int := match l with
  | [] => ks
  | o :: _ => redoK o ks
def redoFs (st : List Nat) (x : Int) (l : List Opn) (F : Int → List Vr) : Int → List Vr := match l with
  | [] => F
  | o :: _ => redoF st x o F

theorem redoD_length (st : List Nat) (x key : Int) (F : Int → List Vr) (k : Int) : (redoD st x key F k).length = (F k).length := by
  cases h : (F key).findIdx? (alive st) with
  | none => simp only [redoD, h]
  | some i =>
    simp only [redoD, h]
    by_cases e : k = key
    · subst e; rw [updF_same, dieAt_length]
    · rw [updF_other _ _ e]

variable {w : World} {B p h b mb : Nat} {v : Value} {S : Int → Value} {st : List Nat} {ks : List Int} {F : Int → List Vr}

theorem Sx.footB (a : Sx w B p h b mb v S st ks F) : ∀ k, foot p b v h mb S k → B ≤ k ∧ k < w.heap.size := by
  intro k hk
  rcases hk with (rfl | rfl | h1) | rfl | rfl | ⟨q, h1⟩
  · exact ⟨a.mg.bp, heap_lt a.mg.hp⟩
  · exact ⟨a.mg.bb, a.mg.hm.lt⟩
  · exact World.ownsRow.lt a.mg.hv k h1
  · exact ⟨a.hp.bh, heap_lt a.hp.hh⟩
  · exact ⟨a.hp.bm, a.hp.hm.lt⟩
  · exact World.ownsRow.lt (a.hp.rows q) k h1

/-- A list of one operation. -/
theorem three_head {w : World} {base n c : Nat} {a : Option Addr} {gone : Bool} {key : Int} {txt : ByteArray} {t : TypeId} (h : w.ownsRow base t 3 (.slice a n c) 1 (ocl [⟨gone, key, txt⟩])) :
    ∃ g, a = some ⟨g, 0, none⟩ ∧ base ≤ g ∧ n = 1 ∧ n ≤ c ∧ (w.cell? ⟨g, 0, none⟩ = some (.bool gone) ∧ w.cell? ⟨g, 1, none⟩ = some (.int .i64 key) ∧ w.cell? ⟨g, 2, none⟩ = some (.string txt)) := by
  rcases h.2 with ⟨_, h0⟩ | ⟨g, cap, cur, hv, hbg, hg, hnc, hcm, hcs, htk⟩
  · omega
  · simp only [Value.slice.injEq] at hv
    obtain ⟨rfl, rfl, rfl⟩ := hv
    have cell : ∀ (i : Nat) (u : Value), (ocl [⟨gone, key, txt⟩])[i]? = some u → w.cell? ⟨g, i, none⟩ = some u := fun i u hu => by
      have := World.ownsRow.cells h (g := g) rfl i u hu
      simpa [Addr.add_lit] using this
    exact ⟨g, rfl, hbg, rfl, hnc, cell 0 _ rfl, cell 1 _ rfl, cell 2 _ rfl⟩

set_option maxHeartbeats 4000000 in
set_option maxRecDepth 100000 in
/-- What stands behind the deaths of one operation, and the birth. -/
theorem redo_any {base : Nat} (a : Sx w B p h b mb v S st ks F) (x : Int) (hx : (Lit.int .i64 x).wf = true) (ov : Value) (l : List Opn) (ho : w.ownsRow base 56 3 ov l.length (ocl l)) (hl : l.length ≤ 1) (hk : ∀ o ∈ l, (Lit.int .i64 o.key).wf = true) (hks : ks.length < 1000000) (hF : ∀ k, (F k).length < 1000000) :
    Calls Try.prog 23 #[.pointer (some ⟨h, 0, none⟩), .int .i64 x, ov] w fun e w' => e = .returned (.int .i64 (if stAt st x = 2 then 0 else 7)) ∧
      ∃ S', Sx w' B p h b mb v S' st (if stAt st x = 2 then redoKs l ks else ks) (if stAt st x = 2 then redoFs st x l F else F) ∧ Fo (foot p b v h mb S) w w' ∧ ∀ k, foot p b v h mb S' k → foot p b v h mb S k ∨ w.heap.size ≤ k := by
  have A := Lib.hid a; have HX := Lib.hid hx; have HK := Lib.hid hk; have HKS := Lib.hid hks; have HF := Lib.hid hF
  obtain ⟨W1, hW1⟩ : ∃ W1, W1 = w.alloc (.cells #[.pointer (some ⟨h, 0, none⟩)] 27) := ⟨_, rfl⟩
  have hk1 : Kept w W1 [] := by rw [hW1]; exact (Kept.refl w []).alloc _
  have hb1 : W1.heap[w.heap.size]? = some (.cells #[.pointer (some ⟨h, 0, none⟩)] 27 (0, 0)) := by rw [hW1]; exact heap_alloc_new w _
  have c0 : (w.alloc (.cells #[.pointer (some ⟨h, 0, none⟩)] 27)).cell? ⟨w.heap.size, 0, none⟩ = some (.pointer (some ⟨h, 0, none⟩)) := by rw [cell_of_row _ _ 0 _ _ _ (heap_alloc_new w _)]; rfl
  have K1 := Lib.hid hk1; have HB1 := Lib.hid hb1
  have A1 := Lib.hid (A.out.keep hk1)
  have cm := Lib.hid (missing_any A1.out)
  have cc := Lib.hid (committed_any A1.out x hx)
  obtain ⟨bx, hbx⟩ : ∃ bx, bx = w.heap.size := ⟨_, rfl⟩
  rw [← hbx] at HB1
  have HO1 := Lib.hid (ownsRow_fr ho (Fr.ofKept hk1 0 []) (by simp))
  obtain ⟨ao, co, hov⟩ := ownsRow_shape ho
  have HBXE := Lib.hid hbx
  clear a hx ho hk hks hF hk1 hb1
  subst hov
  by_cases h2 : stAt st x = 2
  · rw [if_pos h2, if_pos h2, if_pos h2]
    have e1 : (stAt st x == 2) = true := by simp [h2]
    rw [e1] at cc
    clear e1 h2
    rcases l with _ | ⟨o, _ | ⟨o2, r⟩⟩
    · go_enter Try.func23, Try.ntmps23
      go_wp2_with fail
      rw [← hW1]
      refine cm.out.mono ?_
      rintro e w2 ⟨rfl, rfl⟩
      rw [← hW1] at c0
      clear hW1 hbx
      go_wp2_with fail
      refine cc.out.mono ?_
      rintro e w2 ⟨rfl, rfl⟩
      go_wp2
      go_loop [20] (fun t => t = .int .i64 0) (fun _ => 0)
      case atStart => rfl
      case round =>
        subst hrel
        go_wp2
        go_ret
        exact ⟨rfl, S, A1.out, Fo.ofKept K1.out _, fun k hk => .inl hk⟩
    · obtain ⟨gone, key, txt⟩ := o
      have hwk : (Lit.int .i64 key).wf = true := HK.out ⟨gone, key, txt⟩ (by simp)
      obtain ⟨go, hgo, _, _, _, hcell⟩ := three_head HO1.out
      subst hgo
      obtain ⟨y0, y1, y2⟩ := hcell
      go_enter Try.func23, Try.ntmps23
      go_wp2_with fail
      rw [← hW1]
      refine cm.out.mono ?_
      rintro e w2 ⟨rfl, rfl⟩
      rw [← hW1] at c0
      clear hW1 
      go_wp2_with fail
      refine cc.out.mono ?_
      rintro e w2 ⟨rfl, rfl⟩
      rw [← hbx] at c0 ⊢
      clear hbx
      go_wp2
      go_loopw [9, 10, 20] (fun _ _ t wr => (t = .int .i64 0 ∧ wr = W1) ∨ (t = .int .i64 1 ∧ ∃ S', Sx wr B p h b mb v S' st (redoKs [⟨gone, key, txt⟩] ks) (redoFs st x [⟨gone, key, txt⟩] F) ∧ Fo (foot p b v h mb S) w wr ∧ ∀ k, foot p b v h mb S' k → foot p b v h mb S k ∨ w.heap.size ≤ k)) (fun _ _ t _ => 1 - (intOf t).toNat)
      case atStart => exact .inl ⟨rfl, rfl⟩
      case round =>
        rcases hrel with ⟨rfl, rfl⟩ | ⟨rfl, S', R, FO, FT⟩
        · have c0 : wr.cell? ⟨bx, 0, none⟩ = some (.pointer (some ⟨h, 0, none⟩)) := by rw [cell_of_row _ _ 0 _ _ _ HB1.out]; rfl
          obtain ⟨W2, hW2⟩ : ∃ W2, W2 = wr.alloc (.cells #[.bool gone, .int .i64 key, .string txt] 56) := ⟨_, rfl⟩
          have k12 : Kept wr W2 [] := by rw [hW2]; exact (Kept.refl wr []).alloc _
          have g2 : W2.heap[wr.heap.size]? = some (.cells #[.bool gone, .int .i64 key, .string txt] 56 (0, 0)) := by rw [hW2]; exact heap_alloc_new wr _
          obtain ⟨bo, hbo⟩ : ∃ bo, bo = wr.heap.size := ⟨_, rfl⟩
          rw [← hbo] at g2
          have bxl : bx < wr.heap.size := World.block_lt_of_cell? wr _ c0
          have A2 := Lib.hid (A1.out.keep k12)
          have B2 := Lib.hid (k12.heap (by simp) HB1.out)
          have G2 := Lib.hid g2
          have K12 := Lib.hid k12
          have pays : Pays W2 key (F key) 41 #[.pointer (some ⟨bx, 0, none⟩)] (alive st) := by
            intro r hr V hV
            exact redo1_any (A2.out.keep hV) bx (hV.cell (p := ⟨bx, 0, none⟩) (by simp) (by rw [cell_of_row _ _ 0 _ _ _ B2.out]; rfl)) key r (A2.out.hp.ok key r hr)
          have cf := Lib.hid (first_any A2.out key hwk _ _ _ (enters_of Try.func41 (by kernel_rfl) rfl) pays)
          clear k12 g2 pays
          have body : ∀ (w3 : World) (S3 : Int → Value) (G : Int → List Vr), Sx w3 B p h b mb v S3 st ks G → Fo (foot p b v h mb S) w w3 → (∀ k, foot p b v h mb S3 k → foot p b v h mb S k ∨ w.heap.size ≤ k) → (∀ k, (G k).length < 1000000) →
              Calls Try.prog 35 #[.pointer (some ⟨h, 0, none⟩), .agg #[.int .i64 key, .string txt], .int .i64 x] w3 fun e w' => e = .returned (.tuple #[]) ∧
                ∃ S', Sx w' B p h b mb v S' st (insK key ks) (updF G key (G key ++ [⟨txt, x, 0⟩])) ∧ Fo (foot p b v h mb S) w w' ∧ ∀ k, foot p b v h mb S' k → foot p b v h mb S k ∨ w.heap.size ≤ k := by
            intro w3 S3 G hs hf ht hG
            refine (bear_any hs key txt x hwk HX.out HKS.out (hG key)).mono ?_
            rintro e w' ⟨rfl, S', R, f2, t2⟩
            have stp := Stp.trans (O := foot p b v h mb S) ⟨hf, ht⟩ ⟨f2, t2⟩
            exact ⟨rfl, S', R, stp.1, stp.2⟩
          have BODY := Lib.hid body
          have FOX : Hid (Fo (foot p b v h mb S) w W2) := Lib.hid (Fo.ofKept (K1.out.trans K12.out (by simp)) _)
          clear body
          cases hi : (F key).findIdx? (alive st) with
          | none =>
            have RD : Hid (redoD st x key F = F) := Lib.hid (by simp only [redoD, hi])
            rw [hi, pv_none] at cf
            clear hi
            go_wp2_with fail
            rw [← hW2, ← hbo]
            clear hW2 hbo bxl
            refine cf.out.mono ?_
            rintro e w3 ⟨rfl, k3⟩
            have A3 := Lib.hid (A2.out.keep k3)
            have B3 := Lib.hid (k3.heap (by simp) B2.out)
            have F3 := Lib.hid (FOX.out.trans (Fo.ofKept k3 _))
            obtain ⟨z0, z1, z2⟩ := three_at (k3.heap (by simp) G2.out)
            have c3 : w3.cell? ⟨bx, 0, none⟩ = some (.pointer (some ⟨h, 0, none⟩)) := by rw [cell_of_row _ _ 0 _ _ _ B3.out]; rfl
            clear k3 c0
            cases gone
            · have cb := Lib.hid (BODY.out w3 S F A3.out F3.out (fun k hk => .inl hk) HF.out)
              go_wp2_with fail
              refine cb.out.mono ?_
              rintro e w4 ⟨rfl, S', R4, F4, T4⟩
              have R4 := Lib.hid R4; have F4 := Lib.hid F4; have T4 := Lib.hid T4
              clear z0 z1 z2 c3
              go_wp2
              go_roundw
              case rel =>
                refine .inr ⟨by go_num, S', ?_, F4.out, T4.out⟩
                simp only [redoKs, redoK, redoFs, redoF, if_neg (by decide : ¬ (false = true)), RD.out]
                exact R4.out
              case measure => simp [intOf]
            · go_wp2
              go_roundw
              case rel =>
                refine .inr ⟨by go_num, S, ?_, F3.out, fun k hk => .inl hk⟩
                simp only [redoKs, redoK, redoFs, redoF, if_pos, RD.out]
                exact A3.out
              case measure => simp [intOf]
          | some i =>
            have RD : Hid (redoD st x key F = updF F key (dieAt (F key) i x)) := Lib.hid (by simp only [redoD, hi])
            have hlt := findIdx_lt hi
            obtain ⟨g, cap, cur, hs, _⟩ := A2.out.row hlt
            rw [hi, hs] at cf
            simp only [pv] at cf
            have HLT := Lib.hid hlt; have HSK := Lib.hid hs
            clear hi hlt hs
            go_wp2_with fail
            rw [← hW2, ← hbo]
            clear hW2 hbo bxl
            refine cf.out.mono ?_
            rintro e w3 ⟨rfl, k3⟩
            have A3 := Lib.hid (A2.out.keep k3)
            have B3 := Lib.hid (k3.heap (by simp) B2.out)
            have G3 := Lib.hid (k3.heap (by simp) G2.out)
            have F3 := Lib.hid (FOX.out.trans (Fo.ofKept k3 _))
            obtain ⟨g', cap', cur', hs', hg'⟩ := A3.out.row HLT.out
            have hs2 := HSK.out
            rw [hs'] at hs2
            simp only [Value.slice.injEq, Option.some.injEq, Addr.mk.injEq] at hs2
            obtain ⟨⟨rfl, _⟩, _, rfl⟩ := hs2
            obtain ⟨r, hr⟩ : ∃ r, (F key)[i]? = some r := ⟨_, List.getElem?_eq_getElem HLT.out⟩
            obtain ⟨_, _, _, d3⟩ := spot_cells A3.out hr
            rw [hs'] at d3
            simp only [Value.ownBlock, Option.getD_some] at d3
            have fz := frozen_of_row _ g' (i * 4 + 3) _ _ hg'
            obtain ⟨D1, D2, D3⟩ := A3.out.die hs' HLT.out x HX.out
            have b5 := D3.heap B3.out (by decide)
            have g5 := D3.heap G3.out (by decide)
            have D1 := Lib.hid D1
            have F5 := Lib.hid (F3.out.trans D2)
            have LEN : Hid (∀ k, (updF F key (dieAt (F key) i x) k).length < 1000000) := Lib.hid (fun k => by
              by_cases e : k = key
              · subst e; rw [updF_same, dieAt_length]; exact HF.out k
              · rw [updF_other _ _ e]; exact HF.out k)
            obtain ⟨z0, z1, z2⟩ := three_at (w := w3) G3.out
            have c3 : w3.cell? ⟨bx, 0, none⟩ = some (.pointer (some ⟨h, 0, none⟩)) := by rw [cell_of_row _ _ 0 _ _ _ B3.out]; rfl
            obtain ⟨u0, u1, u2⟩ := three_at g5
            have c5 : (w3.setCell ⟨g', i * 4 + 3, none⟩ (.int .i64 x)).cell? ⟨bx, 0, none⟩ = some (.pointer (some ⟨h, 0, none⟩)) := by rw [cell_of_row _ _ 0 _ _ _ b5]; rfl
            have hne1 : bx ≠ g' := by rintro rfl; have h1 := B3.out; rw [hg'] at h1; simp at h1
            have hne2 : bo ≠ g' := by rintro rfl; have h1 := G3.out; rw [hg'] at h1; simp at h1
            have HR := Lib.hid hr
            clear k3 c0 hs' hg' b5 g5 D2 D3 hr
            cases gone
            · have cb := Lib.hid (BODY.out _ S _ D1.out F5.out (fun k hk => .inl hk) LEN.out)
              go_wp2_with fail
              refine cb.out.mono ?_
              rintro e w4 ⟨rfl, S', R4, F4, T4⟩
              have R4 := Lib.hid R4; have F4 := Lib.hid F4; have T4 := Lib.hid T4
              clear z0 z1 z2 c3 u0 u1 u2 c5
              go_wp2
              go_roundw
              case rel =>
                refine .inr ⟨by go_num, S', ?_, F4.out, T4.out⟩
                simp only [redoKs, redoK, redoFs, redoF, if_neg (by decide : ¬ (false = true)), RD.out]
                exact R4.out
              case measure => simp [intOf]
            · go_wp2
              go_roundw
              case rel =>
                refine .inr ⟨by go_num, S, ?_, F5.out, fun k hk => .inl hk⟩
                simp only [redoKs, redoK, redoFs, redoF, if_pos, RD.out]
                exact D1.out
              case measure => simp [intOf]
        · have R := Lib.hid R; have FO := Lib.hid FO; have FT := Lib.hid FT
          go_wp2
          go_ret
          exact ⟨rfl, S', R.out, FO.out, FT.out⟩
    · simp at hl
  · rw [if_neg h2, if_neg h2, if_neg h2]
    have e1 : (stAt st x == 2) = false := by simpa using h2
    rw [e1] at cc
    clear e1 h2
    go_enter Try.func23, Try.ntmps23
    go_wp2_with fail
    rw [← hW1]
    refine cm.out.mono ?_
    rintro e w2 ⟨rfl, rfl⟩
    rw [← hW1] at c0
    clear hW1 hbx
    go_wp2_with fail
    refine cc.out.mono ?_
    rintro e w2 ⟨rfl, rfl⟩
    go_wp2
    go_ret
    exact ⟨rfl, S, A1.out, Fo.ofKept K1.out _, fun k hk => .inl hk⟩

end Go.Proofs.Ytpknnpdnhdcnjaa
