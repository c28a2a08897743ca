/-
  Qj, Qk, Ql in one text.
-/
import Derived.Test.YtdjhcdgehmpikaaRj
namespace Go.Proofs.Ytdjhcdgehmpikaa
set_option linter.unusedVariables false
open Go.RowKit Go.Maps

/-- A manager, and a heap's own two cells. -/
structure Sw (w : World) (B p h b : Nat) (mv v : Value) (st : List Nat) : Prop where
  mg : Mg w B p b v st
  hh : w.heap[h]? = some (.cells #[.pointer (some ⟨p, 0, none⟩), mv] 116 (0, 0))

variable {w w' : World} {B p h b mb : Nat} {v mv : Value} {S : Int → Value} {st : List Nat} {ks : List Int} {F : Int → List Vr}

theorem Sw.fo {O : Nat → Prop} (a : Sw w B p h b mv v st) (hf : Fo O w w') (h1 : ∀ k, mfoot p b v k → ¬ O k) (h2 : ¬ O h) : Sw w' B p h b mv v st := ⟨a.mg.fo hf h1, hf.heap h2 a.hh⟩
theorem Sw.keep (a : Sw w B p h b mv v st) (hk : Kept w w' []) : Sw w' B p h b mv v st := a.fo (Fo.ofKept hk (fun _ => False)) (fun _ _ h => h) (fun h => h)
theorem Sw.cell (a : Sw w B p h b mv v st) : w.cell? ⟨h, 0, none⟩ = some (.pointer (some ⟨p, 0, none⟩)) ∧ w.cell? ⟨h, 1, none⟩ = some mv := by
  constructor
  · rw [cell_of_row w h 0 _ _ _ a.hh]; rfl
  · rw [cell_of_row w h 1 _ _ _ a.hh]; rfl

theorem committed_w (a : Sw w B p h b mv v st) (x : Int) (hx : (Lit.int .i64 x).wf = true) : Calls Try.prog 75 #[.pointer (some ⟨h, 0, none⟩), .int .i64 x] w fun e w' => e = .returned (.bool (stAt st x == 2)) ∧ w = w' := by
  obtain ⟨c0, c1⟩ := a.cell
  have hs := mstate_any a.mg x hx
  obtain ⟨n, hn⟩ : ∃ n, stAt st x = n := ⟨_, rfl⟩
  rw [hn] at hs ⊢
  clear a hx hn
  by_cases e : n = 2
  · subst e
    go_enter Try.func75, Try.ntmps75
    go_wp2_with (go_at_call 67; refine hs.mono ?_; rintro e w' ⟨rfl, rfl⟩)
    go_ret
    exact ⟨rfl, rfl⟩
  · have e1 : (n == 2) = false := by simpa using e
    have e2 : ¬ (n : Int) = 2 := by omega
    rw [e1]
    clear e1 e
    go_enter Try.func75, Try.ntmps75
    go_wp2_with (go_at_call 67; refine hs.mono ?_; rintro e w' ⟨rfl, rfl⟩)
    go_ret
    exact ⟨retb (by first | rfl | simpa using e2 | (simp; omega)), rfl⟩

theorem seesOf_w (a : Sw w B p h b mv v st) (mx own : Int) (sl : Value) (opl : List Int) (hsl : RdI w sl opl) (x : Int) (hx : (Lit.int .i64 x).wf = true) :
    Calls Try.prog 68 #[.pointer (some ⟨h, 0, none⟩), vw mx sl own, .int .i64 x] w fun e w' => e = .returned (.bool (did st ⟨mx, opl, own⟩ x)) ∧ Kept w w' [] := by
  have A := Lib.hid a; have HX := Lib.hid hx; have HS := Lib.hid hsl
  obtain ⟨sa, sc, rfl, _⟩ := hsl
  obtain ⟨c, hc⟩ : ∃ c, (stAt st x == 2) = c := ⟨_, rfl⟩
  have HC := Lib.hid hc
  unfold vw
  have K1 := Lib.hid ((Kept.refl w []).alloc (.cells #[.int .i64 mx, .slice sa opl.length sc, .int .i64 own] 51))
  have cc : Calls Try.prog 75 #[.pointer (some ⟨h, 0, none⟩), .int .i64 x] (w.alloc (.cells #[.int .i64 mx, .slice sa opl.length sc, .int .i64 own] 51)) fun e w' => e = .returned (.bool c) ∧ (w.alloc (.cells #[.int .i64 mx, .slice sa opl.length sc, .int .i64 own] 51)) = w' := by
    have := committed_w (A.out.keep K1.out) x HX.out
    rwa [hc] at this
  have cs := sees_any mx x _ opl _ (HS.out.keep K1.out)
  obtain ⟨s, hs⟩ : ∃ s, seesB mx opl x = s := ⟨_, rfl⟩
  rw [hs] at cs
  have HSB := Lib.hid hs
  clear a hx hc hs
  by_cases h1 : 0 < x
  · by_cases h2 : x = own
    · subst h2
      have R : Hid (did st ⟨mx, opl, x⟩ x = true) := Lib.hid (by simp [did, h1])
      clear cc cs
      go_enter Try.func68, Try.ntmps68
      go_wp2
      go_ret
      exact ⟨retb R.out.symm, K1.out⟩
    · have R : Hid (did st ⟨mx, opl, own⟩ x = (c && s)) := Lib.hid (by simp only [did, h2, decide_false, Bool.and_false, Bool.false_or, HC.out, HSB.out])
      have h3 : (x == own) = false := by simpa using h2
      cases c
      · go_enter Try.func68, Try.ntmps68
        go_wp2_with (go_at_call 75; refine cc.mono ?_; rintro e w' ⟨rfl, rfl⟩)
        go_ret
        exact ⟨retb R.out.symm, K1.out⟩
      · go_enter Try.func68, Try.ntmps68
        go_wp2_with (first
          | (go_at_call 75; refine cc.mono ?_; rintro e w' ⟨rfl, rfl⟩)
          | (go_at_call 82; refine cs.mono ?_; rintro e w' ⟨rfl, k2⟩))
        go_ret
        exact ⟨retb R.out.symm, K1.out.trans k2 (by simp)⟩
  · have R : Hid (did st ⟨mx, opl, own⟩ x = (c && s)) := Lib.hid (by simp only [did, h1, decide_false, Bool.false_and, Bool.false_or, HC.out, HSB.out])
    cases c
    · go_enter Try.func68, Try.ntmps68
      go_wp2_with (go_at_call 75; refine cc.mono ?_; rintro e w' ⟨rfl, rfl⟩)
      go_ret
      exact ⟨retb R.out.symm, K1.out⟩
    · go_enter Try.func68, Try.ntmps68
      go_wp2_with (first
        | (go_at_call 75; refine cc.mono ?_; rintro e w' ⟨rfl, rfl⟩)
        | (go_at_call 82; refine cs.mono ?_; rintro e w' ⟨rfl, k2⟩))
      go_ret
      exact ⟨retb R.out.symm, K1.out.trans k2 (by simp)⟩

theorem vac1_w (a : Sw w B p h b mv v st) (mx : Int) (sl : Value) (opl : List Int) (hsl : RdI w sl opl) (b1 b2 : Nat) (c0 : w.cell? ⟨b1, 0, none⟩ = some (.pointer (some ⟨h, 0, none⟩)))
    (d0 : w.cell? ⟨b2, 0, none⟩ = some (.int .i64 mx)) (d1 : w.cell? ⟨b2, 1, none⟩ = some sl) (key : Int) (r : Vr) (hr : VrOk r) :
    Calls Try.prog 66 #[.agg #[.int .i64 key, .string r.txt, .int .i64 r.birth, .int .i64 r.death], .pointer (some ⟨b1, 0, none⟩), .pointer (some ⟨b2, 0, none⟩)] w fun e w' => e = .returned (.bool (goneV st mx opl r)) ∧ Kept w w' [] := by
  obtain ⟨hr1, hr2⟩ := hr
  obtain ⟨W1, hW1⟩ : ∃ W1, W1 = w.alloc (.cells #[.int .i64 key, .string r.txt, .int .i64 r.birth, .int .i64 r.death] 124) := ⟨_, rfl⟩
  have k1 : Kept w W1 [] := by rw [hW1]; exact (Kept.refl w []).alloc _
  have K1 := Lib.hid k1
  have g1 : W1.heap[w.heap.size]? = some (.cells #[.int .i64 key, .string r.txt, .int .i64 r.birth, .int .i64 r.death] 124 (0, 0)) := by rw [hW1]; exact heap_alloc_new w _
  have A := Lib.hid (a.keep k1); have HS := Lib.hid (hsl.keep k1)
  have f1 : VacS W1 b1 b2 h p w.heap.size mx sl r.birth r.death :=
    ⟨⟨⟨⟨⟨k1.cell (p := ⟨b1, 0, none⟩) (by simp) c0, (a.keep k1).cell.1⟩, by rw [cell_of_row W1 _ 2 _ _ _ g1]; rfl⟩, by rw [cell_of_row W1 _ 3 _ _ _ g1]; rfl⟩, k1.cell (p := ⟨b2, 0, none⟩) (by simp) d0⟩, k1.cell (p := ⟨b2, 1, none⟩) (by simp) d1⟩
  have hF1 := Lib.hid f1
  obtain ⟨sa, sc, rfl, _⟩ := hsl
  obtain ⟨y, hy⟩ : ∃ y, did st ⟨mx, opl, 0⟩ r.death = y := ⟨_, rfl⟩
  obtain ⟨q, hq⟩ : ∃ q, stAt st r.birth = q := ⟨_, rfl⟩
  have hq3 : q ≤ 3 := by rw [← hq]; exact stAt_le A.out.mg.hs _
  have R : Hid (goneV st mx opl r = (q == 3 || y)) := Lib.hid (by rw [goneV, hy, hq])
  have CS : Hid (∀ V, Kept W1 V [] → Calls Try.prog 67 #[.pointer (some ⟨p, 0, none⟩), .int .i64 r.birth] V fun e w' => e = .returned (.int .u8 q) ∧ V = w') := Lib.hid (fun V hV => by
    rw [← hq]; exact mstate_any (A.out.keep hV).mg r.birth hr1)
  have CO : Hid (∀ V, Kept W1 V [] → Calls Try.prog 68 #[.pointer (some ⟨h, 0, none⟩), .agg #[.int .i64 mx, .slice sa opl.length sc, .int .i64 0], .int .i64 r.death] V fun e w' => e = .returned (.bool y) ∧ Kept W1 w' []) := Lib.hid (fun V hV => by
    rw [← hy]; exact (seesOf_w (A.out.keep hV) mx 0 _ opl (HS.out.keep hV) r.death hr2).mono (fun _ _ h => ⟨h.1, hV.trans h.2 (by simp)⟩))
  have HSQ : Hid (∀ k, Calls Try.prog 67 #[.pointer (some ⟨p, 0, none⟩), .int .i64 r.birth] (W1.drewN k) fun e w' => e = .returned (.int .u8 q) ∧ w' = W1.drewN k) := Lib.hid (fun k => (CS.out _ ((Kept.refl _ []).drewN k)).mono fun _ _ h => ⟨h.1, h.2.symm⟩)
  obtain ⟨txt, rb, rd⟩ := r
  unfold VacS at f1
  simp only at R CS CO HSQ f1 hF1
  have l1 := World.block_lt_of_cell? w _ c0
  have l2 := World.block_lt_of_cell? w _ d0
  clear a hr1 hr2 hy hq c0 d0 d1 k1 g1
  by_cases h3 : q = 3
  · subst h3
    obtain ⟨⟨⟨⟨⟨e0, e1⟩, e2⟩, e3⟩, e4⟩, e5⟩ := f1
    go_enter Try.func66, Try.ntmps66
    go_wp2_with fail
    rw [← hW1]
    clear hW1
    go_quiet ((go_at_call 67; exact Calls.quiet_of_same (HSQ.out _)))
    go_wp2
    go_ret
    exact ⟨retb (by rw [R.out]; rfl), K1.out.drewN _⟩
  · have h4 : q = 0 ∨ q = 1 ∨ q = 2 := by omega
    have k8 : Kept W1 W1.drew [] := (Kept.refl W1 []).drew
    have y2 := vac_keep k8 hF1.out
    clear h3 hq3
    unfold VacS at y2
    clear f1
    rcases h4 with rfl | rfl | rfl
    · go_enter Try.func66, Try.ntmps66
      go_wp2_with fail
      rw [← hW1]
      clear hW1
      go_region_held3 (fun V => ((((V.cell? ⟨b1, 0, none⟩ = some (.pointer (some ⟨h, 0, none⟩)) ∧ V.cell? ⟨h, 0, none⟩ = some (.pointer (some ⟨p, 0, none⟩))) ∧ V.cell? ⟨w.heap.size, 2, none⟩ = some (.int .i64 rb)) ∧ V.cell? ⟨w.heap.size, 3, none⟩ = some (.int .i64 rd)) ∧ V.cell? ⟨b2, 0, none⟩ = some (.int .i64 mx)) ∧ V.cell? ⟨b2, 1, none⟩ = some (.slice sa opl.length sc)) (exact y2)
        (first
          | (go_at_call 67; refine (CS.out _ ?_).mono ?_; exact k8; rintro e w8 ⟨rfl, rfl⟩)
          | (go_at_call 68; refine (CO.out _ ?_).mono ?_; exact k8; rintro e w8 ⟨rfl, k8⟩; have y2 := vac_keep k8 hF1.out; unfold VacS at y2))
      all_goals go_wp2
      all_goals go_ret
      all_goals exact ⟨retb (by rw [R.out]; rfl), K1.out.trans k8 (by simp)⟩
    · go_enter Try.func66, Try.ntmps66
      go_wp2_with fail
      rw [← hW1]
      clear hW1
      go_region_held3 (fun V => ((((V.cell? ⟨b1, 0, none⟩ = some (.pointer (some ⟨h, 0, none⟩)) ∧ V.cell? ⟨h, 0, none⟩ = some (.pointer (some ⟨p, 0, none⟩))) ∧ V.cell? ⟨w.heap.size, 2, none⟩ = some (.int .i64 rb)) ∧ V.cell? ⟨w.heap.size, 3, none⟩ = some (.int .i64 rd)) ∧ V.cell? ⟨b2, 0, none⟩ = some (.int .i64 mx)) ∧ V.cell? ⟨b2, 1, none⟩ = some (.slice sa opl.length sc)) (exact y2)
        (first
          | (go_at_call 67; refine (CS.out _ ?_).mono ?_; exact k8; rintro e w8 ⟨rfl, rfl⟩)
          | (go_at_call 68; refine (CO.out _ ?_).mono ?_; exact k8; rintro e w8 ⟨rfl, k8⟩; have y2 := vac_keep k8 hF1.out; unfold VacS at y2))
      all_goals go_wp2
      all_goals go_ret
      all_goals exact ⟨retb (by rw [R.out]; rfl), K1.out.trans k8 (by simp)⟩
    · go_enter Try.func66, Try.ntmps66
      go_wp2_with fail
      rw [← hW1]
      clear hW1
      go_region_held3 (fun V => ((((V.cell? ⟨b1, 0, none⟩ = some (.pointer (some ⟨h, 0, none⟩)) ∧ V.cell? ⟨h, 0, none⟩ = some (.pointer (some ⟨p, 0, none⟩))) ∧ V.cell? ⟨w.heap.size, 2, none⟩ = some (.int .i64 rb)) ∧ V.cell? ⟨w.heap.size, 3, none⟩ = some (.int .i64 rd)) ∧ V.cell? ⟨b2, 0, none⟩ = some (.int .i64 mx)) ∧ V.cell? ⟨b2, 1, none⟩ = some (.slice sa opl.length sc)) (exact y2)
        (first
          | (go_at_call 67; refine (CS.out _ ?_).mono ?_; exact k8; rintro e w8 ⟨rfl, rfl⟩)
          | (go_at_call 68; refine (CO.out _ ?_).mono ?_; exact k8; rintro e w8 ⟨rfl, k8⟩; have y2 := vac_keep k8 hF1.out; unfold VacS at y2))
      all_goals go_wp2
      all_goals go_ret
      all_goals exact ⟨retb (by rw [R.out]; rfl), K1.out.trans k8 (by simp)⟩

set_option maxRecDepth 20000 in
theorem deleteFunc_nil {w : World} (key : Int) (c : Nat) (lb : Array Value) (P : Vr → Bool) (ec : ∀ args w, (callFunc c args).run Try.prog w = .ok (.enter c args) w) :
    Calls Try.prog 69 #[.slice none 0 0, .func (.func c) #[] lb] w fun e w' => e = .returned (.slice none 0 0) ∧ Kept w w' [] := by
  have ci := indexFunc_any (w := w) (base := 0) (key := key) [] (.slice none 0 0) (World.ownsRow_nil _ _ _ _) c lb P ec (fun r hr => by simp at hr)
  have e1 : idx P [] = -1 := rfl
  rw [e1] at ci
  clear e1
  go_enter Try.func69, Try.ntmps69
  go_wp2_with (go_at_call 83; refine ci.mono ?_; rintro e w' ⟨rfl, k2⟩)
  go_ret
  exact ⟨rfl, k2⟩
end Go.Proofs.Ytdjhcdgehmpikaa

namespace Go.Proofs.Ytdjhcdgehmpikaa
set_option linter.unusedVariables false
open Go.RowKit Go.Maps

/-- What stays. -/
def leftV (st : List Nat) (mx : Int) (opl : List Int) (F : Int → List Vr) : Int → List Vr := fun k => (F k).filter fun r => !goneV st mx opl r

def cut (v : Value) (m : Nat) : Value := match v with | .slice a _ c => .slice a m c | v => v
theorem cut_own (v : Value) (m : Nat) : (cut v m).ownBlock = v.ownBlock := by
  cases v with
  | slice a n c => cases a <;> rfl
  | _ => rfl

theorem row_ne {H : Type} {P : Program} {kt : TypeId} {R : Value → Option (DataW H × List MemPlace)} {D : DataW H} {w : World} {B e sz n b N : Nat} {v : Value} {xs : List Value} (hr : w.ownsRow B e sz v n xs) (hm : w.ownsMap P kt R b N D) : ∀ g, v.ownBlock = some g → g ≠ b := by
  intro g hg e
  subst e
  rcases hr.2 with ⟨h2, _⟩ | ⟨g', cap, cur, h2, _, hh, _⟩
  · rw [h2] at hg; cases hg
  · rw [h2] at hg
    simp only [Value.ownBlock, Option.some.injEq] at hg
    subst hg
    obtain ⟨es, c, hb, _⟩ := hm
    rw [hb] at hh
    cases hh

theorem ranges_fo {H : Type} {P : Program} {kt : TypeId} {R : Value → Option (DataW H × List MemPlace)} {D : DataW H} {w w' : World} {b r n cnt : Nat} {left : Lit → Bool} {O : Nat → Prop} (h : w.ranges P kt R b r n D left cnt) (hf : Fo O w w') (hb' : ¬ O b) (hr' : ¬ O r) : w'.ranges P kt R b r n D left cnt := by
  obtain ⟨es, clock, since, seen, c0, hb, F, hs, hD, hr, rest⟩ := h
  exact ⟨es, clock, since, seen, c0, hf.heap hb' hb, F, hs, hD, hf.heap hr' hr, rest⟩

/-- While it goes on. -/
structure Vi (W4 wr : World) (B mn : Nat) (S : Int → Value) (ks : List Int) (F G : Int → List Vr) (left : Lit → Bool) (K : List Int) : Prop where
  srt : K.Pairwise (· < ·)
  mem : ∀ k, k ∈ K ↔ (k ∈ ks ∧ left (.int .i64 k) = false ∧ G k ≠ [])
  map : Mpv wr mn K.length K (fun k => if k ∈ K then cut (S k) (G k).length else .slice none 0 0)
  un : ∀ k, left (.int .i64 k) = true → wr.ownsRow B 124 4 (S k) (F k).length (vcl k (F k))
  dn : ∀ k ∈ K, wr.ownsRow B 124 4 (cut (S k) (G k).length) (G k).length (vcl k (G k))
  fo : Fo (fun k => k = mn ∨ ∃ q, (S q).ownBlock = some k) W4 wr

variable {W4 wr w' : World} {B mn : Nat} {S : Int → Value} {ks : List Int} {F G : Int → List Vr} {left : Lit → Bool} {K : List Int}

theorem Vi.start (hm : Mpv W4 mn 0 [] (fun _ => .slice none 0 0)) (hr : ∀ k, W4.ownsRow B 124 4 (S k) (F k).length (vcl k (F k))) : Vi W4 W4 B mn S ks F G (Maps.has (Tm ks S)) [] := by
  refine ⟨List.Pairwise.nil, fun k => ⟨fun h => by simp at h, fun ⟨h1, h2, _⟩ => ?_⟩, by simpa using hm, fun k _ => hr k, by simp, Fo.refl _ _⟩
  have : Maps.has (Tm ks S) (.int .i64 k) = true := by
    rw [Tm, Maps.has_eq, List.any_eq_true]
    exact ⟨_, List.mem_map.2 ⟨k, h1, rfl⟩, by simp [Lit.sameKey]⟩
  rw [this] at h2
  cases h2

/-- Blocks beside it may turn. -/
theorem Vi.beside {Q : Nat → Prop} (a : Vi W4 wr B mn S ks F G left K) (hf : Fo Q wr w') (h1 : ∀ k, Q k → W4.heap.size ≤ k) (h2 : mn < W4.heap.size) (h3 : ∀ q g, (S q).ownBlock = some g → g < W4.heap.size) : Vi W4 w' B mn S ks F G left K := by
  have hq : ∀ q g, (S q).ownBlock = some g → ¬ Q g := fun q g hg e => by have := h1 g e; have := h3 q g hg; omega
  refine { a with map := ownsMap_fo a.map hf (fun e => by have := h1 _ e; omega), un := fun k hk => ownsRow_fo (a.un k hk) hf (hq k), dn := fun k hk => ownsRow_fo (a.dn k hk) hf (fun g hg => hq k g (by rw [cut_own] at hg; exact hg)), fo := ?_ }
  refine ⟨hf.os.trans a.fo.os, hf.tape.trans a.fo.tape, hf.output.trans a.fo.output, Nat.le_trans a.fo.size hf.size, fun j hj hn => ?_⟩
  exact (hf.block j (Nat.lt_of_lt_of_le hj a.fo.size) (fun e => by have := h1 j e; omega)).trans (a.fo.block j hj hn)

theorem strike_iff (left : Lit → Bool) (x k : Int) : (left (.int .i64 k) && !(Lit.int .i64 k).sameKey (.int .i64 x)) = false ↔ left (.int .i64 k) = false ∨ k = x := by
  by_cases e : k = x
  · subst e; simp [Lit.sameKey]
  · simp [Lit.sameKey, e]
theorem strike_true (left : Lit → Bool) (x k : Int) : (left (.int .i64 k) && !(Lit.int .i64 k).sameKey (.int .i64 x)) = true ↔ left (.int .i64 k) = true ∧ k ≠ x := by
  by_cases e : k = x
  · subst e; simp [Lit.sameKey]
  · simp [Lit.sameKey, e]

/-- A key's row has turned. -/
theorem Vi.turn {x : Int} (a : Vi W4 wr B mn S ks F G left K) (hl : left (.int .i64 x) = true) (hf : Fo (fun k => (S x).ownBlock = some k) wr w') (ap : ∀ k q, k ≠ q → (S k).ownBlock = none ∨ (S k).ownBlock ≠ (S q).ownBlock) :
    Mpv w' mn K.length K (fun k => if k ∈ K then cut (S k) (G k).length else .slice none 0 0) ∧
    (∀ k, (left (.int .i64 k) && !(Lit.int .i64 k).sameKey (.int .i64 x)) = true → w'.ownsRow B 124 4 (S k) (F k).length (vcl k (F k))) ∧
    (∀ k ∈ K, w'.ownsRow B 124 4 (cut (S k) (G k).length) (G k).length (vcl k (G k))) ∧ Fo (fun k => k = mn ∨ ∃ q, (S q).ownBlock = some k) W4 w' := by
  have hx : ∀ k g, k ≠ x → (S k).ownBlock = some g → ¬ (S x).ownBlock = some g := by
    intro k g hk h1 h2
    rcases ap k x hk with h | h
    · rw [h] at h1; cases h1
    · exact h (h1.trans h2.symm)
  refine ⟨ownsMap_fo a.map hf (fun e => row_ne (a.un x hl) a.map mn e rfl), fun k hk => ?_, fun k hk => ?_, a.fo.trans (hf.mono (fun k hk => .inr ⟨x, hk⟩))⟩
  · obtain ⟨h1, h2⟩ := (strike_true left x k).1 hk
    exact ownsRow_fo (a.un k h1) hf (fun g hg => hx k g h2 hg)
  · refine ownsRow_fo (a.dn k hk) hf (fun g hg => hx k g ?_ (by rw [cut_own] at hg; exact hg))
    rintro rfl
    have := ((a.mem k).1 hk).2.1
    rw [hl] at this; cases this

/-- Nothing is left at a key. -/
theorem Vi.out {x : Int} (a : Vi W4 wr B mn S ks F G left K) (hl : left (.int .i64 x) = true) (hf : Fo (fun k => (S x).ownBlock = some k) wr w') (ap : ∀ k q, k ≠ q → (S k).ownBlock = none ∨ (S k).ownBlock ≠ (S q).ownBlock) (hG : G x = []) :
    Vi W4 w' B mn S ks F G (fun z => left z && !z.sameKey (.int .i64 x)) K := by
  obtain ⟨m, un, dn, fo⟩ := a.turn hl hf ap
  refine ⟨a.srt, fun k => ?_, m, un, dn, fo⟩
  rw [a.mem k]
  constructor
  · rintro ⟨h1, h2, h3⟩
    exact ⟨h1, (strike_iff left x k).2 (.inl h2), h3⟩
  · rintro ⟨h1, h2, h3⟩
    rcases (strike_iff left x k).1 h2 with h | rfl
    · exact ⟨h1, h, h3⟩
    · exact absurd hG h3

/-- Something is left at a key, and has been laid into the new map. -/
theorem Vi.into {x : Int} {w2 w6 : World} (a : Vi W4 wr B mn S ks F G left K) (hl : left (.int .i64 x) = true) (hx : x ∈ ks) (hf : Fo (fun k => (S x).ownBlock = some k) wr w2) (ap : ∀ k q, k ≠ q → (S k).ownBlock = none ∨ (S k).ownBlock ≠ (S q).ownBlock) (hG : G x ≠ [])
    (hr : w2.ownsRow B 124 4 (cut (S x) (G x).length) (G x).length (vcl x (G x)))
    (hm : w6.ownsMap Try.prog 2 Rh mn (K.length + 1) ((Tm K (fun k => if k ∈ K then cut (S k) (G k).length else .slice none 0 0)).put (.int .i64 x) (.held (cut (S x) (G x).length)))) (ht : w2.mapTurned w6 mn) :
    Vi W4 w6 B mn S ks F G (fun z => left z && !z.sameKey (.int .i64 x)) (insK x K) := by
  obtain ⟨m, un, dn, fo⟩ := a.turn hl hf ap
  have f6 : Fo (fun k => k = mn) w2 w6 := (Fo.refl _ w2).turned ht rfl
  rw [put_Tm x _ _ a.srt] at hm
  have e : updF (fun k => if k ∈ K then cut (S k) (G k).length else .slice none 0 0) x (cut (S x) (G x).length) = fun k => if k ∈ insK x K then cut (S k) (G k).length else .slice none 0 0 := by
    funext k
    by_cases hk : k = x
    · subst hk
      rw [updF_same, if_pos (mem_insK.2 (.inl rfl))]
    · rw [updF_other _ _ hk]
      by_cases h2 : k ∈ K
      · rw [if_pos h2, if_pos (mem_insK.2 (.inr h2))]
      · rw [if_neg h2, if_neg (fun h => by rcases mem_insK.1 h with h | h <;> contradiction)]
  rw [e] at hm
  have hm2 := ownsMap_tight hm
  rw [size_Tm] at hm2
  refine ⟨insK_sorted a.srt, fun k => ?_, hm2, fun k hk => ownsRow_fo (un k hk) f6 (row_ne (un k hk) m), fun k hk => ?_, fo.trans (f6.mono (fun k hk => .inl hk))⟩
  · rw [mem_insK, a.mem k]
    constructor
    · rintro (rfl | ⟨h1, h2, h3⟩)
      · exact ⟨hx, (strike_iff left k k).2 (.inr rfl), hG⟩
      · exact ⟨h1, (strike_iff left x k).2 (.inl h2), h3⟩
    · rintro ⟨h1, h2, h3⟩
      rcases (strike_iff left x k).1 h2 with h | h
      · exact .inr ⟨h1, h, h3⟩
      · exact .inl h
  · rcases mem_insK.1 hk with rfl | h
    · exact ownsRow_fo hr f6 (row_ne hr m)
    · exact ownsRow_fo (dn k h) f6 (row_ne (dn k h) m)

variable {w : World} {p h b mb : Nat} {v : Value} {st : List Nat}

/-- At the end. -/
theorem Vi.done (a : Sx w B p h b mb v S st ks F) {mx : Int} {opl : List Int} (k4 : Kept w W4 []) (i : Vi W4 wr B mn S ks F (leftV st mx opl F) left K) (hl : ∀ kl, left kl = false) (hmn : w.heap.size ≤ mn) :
    Sx (wr.setCell ⟨h, 1, none⟩ (.map (some mn))) B p h b mn v (fun k => if k ∈ K then cut (S k) (leftV st mx opl F k).length else .slice none 0 0) st K (leftV st mx opl F) ∧
    Fo (foot p b v h mb S) w (wr.setCell ⟨h, 1, none⟩ (.map (some mn))) ∧ ∀ k, foot p b v h mn (fun k => if k ∈ K then cut (S k) (leftV st mx opl F k).length else .slice none 0 0) k → foot p b v h mb S k ∨ w.heap.size ≤ k := by
  obtain ⟨d1, d2, d3⟩ := a.mdis
  have hlt := heap_lt a.hp.hh
  have hbl := a.mg.hm.lt
  have P4 : ∀ k, k < w.heap.size → (k = mn ∨ ∃ q, (S q).ownBlock = some k) → ∃ q, (S q).ownBlock = some k := by
    rintro k hk (h | h)
    · omega
    · exact h
  have hS : ∀ q g, (S q).ownBlock = some g → g ≠ h := by
    intro q g hg e
    subst e
    rcases (a.hp.rows q).2 with ⟨h2, _⟩ | ⟨g', cap, cur, h2, _, hh, _⟩
    · rw [h2] at hg; cases hg
    · rw [h2] at hg
      simp only [Value.ownBlock, Option.some.injEq] at hg
      subst hg
      rw [a.hp.hh] at hh
      simp only [Option.some.injEq, Obj.cells.injEq] at hh
      exact absurd hh.2.1 (by decide)
  have f1 : Fo (fun k => ∃ q, (S q).ownBlock = some k) w wr := by
    have f0 := Fo.ofKept k4 (fun _ => False)
    refine ⟨i.fo.os.trans f0.os, i.fo.tape.trans f0.tape, i.fo.output.trans f0.output, Nat.le_trans f0.size i.fo.size, fun j hj hn => ?_⟩
    exact (i.fo.block j (Nat.lt_of_lt_of_le hj f0.size) (fun e => hn (P4 j hj e))).trans (f0.block j hj (fun h => h))
  have f2 : Fo (fun k => k = h) wr (wr.setCell ⟨h, 1, none⟩ (.map (some mn))) := (Fo.refl (fun k => k = h) wr).setCell (p := ⟨h, 1, none⟩) (.inl rfl) _
  have hh1 := f1.heap (fun ⟨q, e⟩ => hS q h e rfl) a.hp.hh
  have hg : ∀ k, k ∉ K → leftV st mx opl F k = [] := by
    intro k hk
    by_cases h1 : k ∈ ks
    · cases e : leftV st mx opl F k with
      | nil => rfl
      | cons y ys => exact absurd ((i.mem k).2 ⟨h1, hl _, by rw [e]; simp⟩) hk
    · have h2 := a.hp.rows k
      rw [a.hp.nk k h1] at h2
      have h3 : (F k).length = 0 := by
        rcases h2.2 with ⟨_, h0⟩ | ⟨g', cap, cur, h2, _⟩
        · exact h0
        · cases h2
      rw [leftV, List.eq_nil_of_length_eq_zero h3]; rfl
  have own : ∀ k g, ((fun k => if k ∈ K then cut (S k) (leftV st mx opl F k).length else Value.slice none 0 0) k).ownBlock = some g → k ∈ K ∧ (S k).ownBlock = some g := by
    intro k g hg
    by_cases hk : k ∈ K
    · simp only [if_pos hk, cut_own] at hg; exact ⟨hk, hg⟩
    · simp only [if_neg hk] at hg; cases hg
  refine ⟨⟨?_, ?_, by omega⟩, (f1.mono (fun k hk => .inr (.inr (.inr hk)))).trans (f2.mono (fun k hk => .inr (.inl hk))), ?_⟩
  · refine (a.mg.fo f1 (fun k hk => ?_)).fo f2 (fun k hk e => d1 (by rw [← e]; exact hk))
    rintro ⟨q, e⟩
    exact d3 q k e hk
  · refine { hh := ?_, hm := ownsMap_fo i.map f2 (by omega), srt := i.srt, wf := fun k hk => a.hp.wf k ((i.mem k).1 hk).1, rows := fun k => ?_, nk := fun k hk => if_neg hk, apart := fun k q hkq => ?_, ok := fun k r hr => a.hp.ok k r (List.mem_filter.1 hr).1, bh := a.hp.bh, bm := by have := a.hp.bh; omega }
    · have := heap_setCell_at hh1 1 (.map (some mn))
      simpa using this
    · by_cases hk : k ∈ K
      · simp only [if_pos hk]
        exact ownsRow_fo (i.dn k hk) f2 (fun g hg => hS k g (by rw [cut_own] at hg; exact hg))
      · simp only [if_neg hk]
        rw [hg k hk]
        exact World.ownsRow_nil _ _ _ _
    · by_cases hk : k ∈ K
      · simp only [if_pos hk, cut_own]
        rcases a.hp.apart k q hkq with h1 | h1
        · exact .inl h1
        · by_cases hq : q ∈ K
          · right; simpa only [if_pos hq, cut_own] using h1
          · simp only [if_neg hq]
            cases e : (S k).ownBlock with
            | none => exact .inl rfl
            | some g => right; simp [Value.ownBlock]
      · left; simp only [if_neg hk]; rfl
  · rintro k (hk | rfl | rfl | ⟨q, hq⟩)
    · exact .inl (.inl hk)
    · exact .inl (.inr (.inl rfl))
    · exact .inr hmn
    · exact .inl (.inr (.inr (.inr ⟨q, (own q k hq).2⟩)))
end Go.Proofs.Ytdjhcdgehmpikaa

namespace Go.Proofs.Ytdjhcdgehmpikaa
set_option linter.unusedVariables false
open Go.RowKit Go.Maps

variable {w w' : World} {B p h b mb : Nat} {v : Value} {S : Int → Value} {st : List Nat} {ks : List Int} {F : Int → List Vr}

/-- What Vacuum leaves. -/
def VacPost (w : World) (B p h b mb : Nat) (v : Value) (S : Int → Value) (st : List Nat) (ks : List Int) (F G : Int → List Vr) (e : Ending) (w' : World) : Prop :=
  ∃ K, e = .returned (.int .i64 ((allLen F ks : Int) - (allLen G K : Int))) ∧ ∃ mb' S', Sx w' B p h b mb' v S' st K G ∧ Fo (foot p b v h mb S) w w' ∧ ∀ k, foot p b v h mb' S' k → foot p b v h mb S k ∨ w.heap.size ≤ k

theorem sum_zero {f : Int → Nat} : ∀ {ks : List Int}, (ks.map f).sum = 0 → ∀ k ∈ ks, f k = 0
  | [], _, k, hk => by simp at hk
  | a :: ks, hs, k, hk => by
    rw [List.map_cons, List.sum_cons] at hs
    rcases List.mem_cons.1 hk with rfl | h
    · omega
    · exact sum_zero (by omega) k h

theorem sum_le {f g : Int → Nat} (h : ∀ k, f k ≤ g k) : ∀ ks : List Int, (ks.map f).sum ≤ (ks.map g).sum
  | [] => Nat.le_refl _
  | a :: ks => by have := sum_le h ks; have := h a; simp only [List.map_cons, List.sum_cons]; omega

theorem leftV_none (a : Sx w B p h b mb v S st ks F) (mx : Int) (opl : List Int) (h0 : allLen F ks = 0) : leftV st mx opl F = F := by
  funext k
  have e : F k = [] := by
    by_cases hk : k ∈ ks
    · exact List.eq_nil_of_length_eq_zero (sum_zero h0 k hk)
    · have h2 := a.hp.rows k
      rw [a.hp.nk k hk] at h2
      rcases h2.2 with ⟨_, h0⟩ | ⟨g', cap, cur, h2, _⟩
      · exact List.eq_nil_of_length_eq_zero h0
      · cases h2
  rw [leftV, e]; rfl

theorem sum_sub {f : Int → Nat} : ∀ {ks K : List Int}, ks.Pairwise (· < ·) → K.Pairwise (· < ·) → (∀ k ∈ K, k ∈ ks) → (K.map f).sum ≤ (ks.map f).sum
  | _, [], _, _, _ => by simp
  | [], k :: K, _, _, h => by have := h k (by simp); simp at this
  | a :: ks, k :: K, h1, h2, h => by
    rw [List.pairwise_cons] at h1
    have h2' := List.pairwise_cons.1 h2
    by_cases e : k = a
    · subst e
      have ih := sum_sub (f := f) h1.2 h2'.2 (fun q hq => by
        have := h2'.1 q hq
        rcases List.mem_cons.1 (h q (by simp [hq])) with e | e
        · omega
        · exact e)
      simp only [List.map_cons, List.sum_cons]; omega
    · have hk : k ∈ ks := by
        rcases List.mem_cons.1 (h k (by simp)) with e' | e'
        · exact absurd e' e
        · exact e'
      have hak := h1.1 k hk
      have ih := sum_sub (f := f) h1.2 h2 (fun q hq => by
        rcases List.mem_cons.1 (h q hq) with e' | e'
        · exfalso
          rcases List.mem_cons.1 hq with e2 | e2
          · omega
          · have := h2'.1 q e2; omega
        · exact e')
      simp only [List.map_cons, List.sum_cons] at ih ⊢; omega

set_option maxHeartbeats 2000000 in
set_option maxRecDepth 100000 in
theorem vacuum_any (a : Sx w B p h b mb v S st ks F) (mx : Int) (u : Option Addr) (n c : Nat) (opl : List Int) (hv : Vo w (.slice u n c) opl) (hN : allLen F ks ≤ 1000000000) (hks : ks.length ≤ 1000000) :
    Calls Try.prog 51 #[.pointer (some ⟨h, 0, none⟩), .agg #[.int .i64 mx, .slice u n c]] w fun e w' => VacPost w B p h b mb v S st ks F (leftV st mx opl F) e w' := by
  obtain ⟨G, hG⟩ : ∃ G, leftV st mx opl F = G := ⟨_, rfl⟩
  rw [hG]
  have hmm : ∀ w : World, (Instr.makeMap 114 none).run Try.prog w = .ok (.map (some w.heap.size)) (w.alloc (.map #[] 0)) := fun w => run_makeMap _ w
  obtain ⟨W2, hW2⟩ : ∃ W2, W2 = (w.alloc (.cells #[.pointer (some ⟨h, 0, none⟩)] 71)).alloc (.cells #[.int .i64 mx, .slice u n c] 47) := ⟨_, rfl⟩
  have k2 : Kept w W2 [] := by rw [hW2]; exact ((Kept.refl w []).alloc _).alloc _
  obtain ⟨z, hz⟩ : ∃ z, z = w.heap.size := ⟨_, rfl⟩
  have hy1 : (w.alloc (.cells #[.pointer (some ⟨h, 0, none⟩)] 71)).heap.size = z + 1 := by rw [hz]; simp
  obtain ⟨y, hy⟩ : ∃ y, y = z + 1 := ⟨_, rfl⟩
  have g1 : W2.heap[z]? = some (.cells #[.pointer (some ⟨h, 0, none⟩)] 71 (0, 0)) := by rw [hW2, hz]; exact ((Kept.refl _ []).alloc _).heap (by simp) (heap_alloc_new w _)
  have g2 : W2.heap[y]? = some (.cells #[.int .i64 mx, .slice u n c] 47 (0, 0)) := by
    have := heap_alloc_new (w.alloc (.cells #[.pointer (some ⟨h, 0, none⟩)] 71)) (.cells #[.int .i64 mx, .slice u n c] 47)
    rw [hy1] at this
    rw [hW2, hy]; exact this
  have z0 : W2.cell? ⟨z, 0, none⟩ = some (.pointer (some ⟨h, 0, none⟩)) := by rw [cell_of_row _ _ 0 _ _ _ g1]; rfl
  have CL := Lib.hid (len_any (a.keep k2) hN)
  obtain ⟨N, hNN⟩ : ∃ N, allLen F ks = N := ⟨_, rfl⟩
  have NN := Lib.hid hNN
  rw [hNN] at CL hN
  have A := Lib.hid a; have K2 := Lib.hid k2; have HV := Lib.hid hv; have HG := Lib.hid hG; have HKS := Lib.hid hks
  have G1 := Lib.hid g1; have G2 := Lib.hid g2; have HZ := Lib.hid (show w.heap.size ≤ z by omega); have HY := Lib.hid (show w.heap.size ≤ y by omega)
  clear a hv k2 g1 g2 hy1 hG hks hNN
  by_cases h0 : N = 0
  · subst h0
    go_enter Try.func51, Try.ntmps51
    go_wp2_with fail
    rw [← hW2, ← hz]
    clear hW2 hz
    refine CL.out.mono ?_
    rintro e w3 ⟨rfl, k3⟩
    have K3 := Lib.hid (K2.out.trans k3 (by simp))
    clear k3 z0
    go_wp2
    go_ret
    have e0 := leftV_none A.out mx opl NN.out
    rw [HG.out] at e0
    rw [e0]
    exact ⟨ks, by simp, mb, S, A.out.keep K3.out, Fo.ofKept K3.out _, fun k hk => .inl hk⟩
  · have x0 : ((N : Int) == 0) = false := by rw [beq_eq_false_iff_ne]; omega
    go_enter Try.func51, Try.ntmps51
    go_wp2_with fail
    rw [← hW2, ← hz, ← hy]
    clear hW2 hz hy
    refine CL.out.mono ?_
    rintro e w3 ⟨rfl, k3⟩
    have k03 := K2.out.trans k3 (by simp)
    obtain ⟨mn, hmn⟩ : ∃ mn, mn = w3.heap.size := ⟨_, rfl⟩
    obtain ⟨W4, hW4⟩ : ∃ W4, W4 = w3.alloc (.map #[] 0) := ⟨_, rfl⟩
    have k34 : Kept w3 W4 [] := by rw [hW4]; exact (Kept.refl w3 []).alloc _
    have k4 := k03.trans k34 (by simp)
    have k24 := k3.trans k34 (by simp)
    have m4 : Mpv W4 mn 0 [] (fun _ => .slice none 0 0) := by rw [hW4, hmn]; exact World.ownsMap_made w3 _ _ _
    have hm4 : mn < W4.heap.size := m4.lt
    have a4 := A.out.keep k4
    have hown := a4.hp.hm
    have z4 : W4.cell? ⟨z, 0, none⟩ = some (.pointer (some ⟨h, 0, none⟩)) := k24.cell (p := ⟨z, 0, none⟩) (by simp) z0
    have c4 : W4.cell? ⟨h, 1, none⟩ = some (.map (some mb)) := a4.hp.cell.2
    have K3 := Lib.hid k3; have K4 := Lib.hid k4; have K24 := Lib.hid k24; have M4 := Lib.hid m4; have A4 := Lib.hid a4; have HMN := Lib.hid (show w.heap.size ≤ mn by rw [hmn]; exact k03.size)
    have LT4 := Lib.hid hm4
    have HS : Hid (∀ q g, (S q).ownBlock = some g → g < w.heap.size ∧ ∃ cur, W4.heap[g]? = some (.cells cur 124 (0, 0))) := Lib.hid (fun q g hg => by
      refine ⟨(World.ownsRow.lt (A.out.hp.rows q) g hg).2, ?_⟩
      rcases (A4.out.hp.rows q).2 with ⟨h2, _⟩ | ⟨g', cap, cur, h2, _, hh, _⟩
      · rw [h2] at hg; cases hg
      · rw [h2] at hg
        simp only [Value.ownBlock, Option.some.injEq] at hg
        subst hg
        exact ⟨cur, hh⟩)
    have NS : Hid (∀ g cs t fz, W4.heap[g]? = some (.cells cs t fz) → t ≠ 124 → ¬ (g = mn ∨ ∃ q, (S q).ownBlock = some g)) := Lib.hid (fun g cs t fz hg ht => by
      rintro (rfl | ⟨q, e⟩)
      · obtain ⟨es, cc, hb, _⟩ := M4.out
        rw [hb] at hg; cases hg
      · obtain ⟨_, cur, h2⟩ := HS.out q g e
        rw [hg] at h2
        simp only [Option.some.injEq, Obj.cells.injEq] at h2
        exact ht h2.2.1)
    have SW : Hid (∀ V, Fo (fun k => k = mn ∨ ∃ q, (S q).ownBlock = some k) W4 V → Sw V B p h b (.map (some mb)) v st ∧ V.cell? ⟨z, 0, none⟩ = some (.pointer (some ⟨h, 0, none⟩)) ∧ V.cell? ⟨y, 0, none⟩ = some (.int .i64 mx) ∧ V.cell? ⟨y, 1, none⟩ = some (.slice u n c) ∧ RdI V (.slice u n c) opl) := Lib.hid (fun V hV => by
      obtain ⟨d1, d2, d3⟩ := A4.out.mdis
      have gz := hV.heap (NS.out z _ _ _ (K24.out.heap (by simp) G1.out) (by decide)) (K24.out.heap (by simp) G1.out)
      have gy := hV.heap (NS.out y _ _ _ (K24.out.heap (by simp) G2.out) (by decide)) (K24.out.heap (by simp) G2.out)
      have hv4 := HV.out.keep K4.out
      refine ⟨⟨A4.out.mg.fo hV ?_, hV.heap (NS.out h _ _ _ A4.out.hp.hh (by decide)) A4.out.hp.hh⟩, by rw [cell_of_row _ _ 0 _ _ _ gz]; rfl, by rw [cell_of_row _ _ 0 _ _ _ gy]; rfl, by rw [cell_of_row _ _ 1 _ _ _ gy]; rfl, Vo.rd (ownsRow_fo hv4 hV (fun g hg => ?_))⟩
      · rintro k hk (rfl | ⟨q, e⟩)
        · have h1 := (A.out.mg.foot _ hk).2
          have := HMN.out
          omega
        · exact d3 q k e hk
      · rcases hv4.2 with ⟨h2, _⟩ | ⟨g', cap, cur, h2, _, hh, _⟩
        · rw [h2] at hg; cases hg
        · rw [h2] at hg
          simp only [Value.ownBlock, Option.some.injEq] at hg
          subst hg
          exact NS.out _ _ _ _ hh (by decide))
    have V0 : Hid (Vi W4 W4 B mn S ks F G (Maps.has (Tm ks S)) []) := Lib.hid (Vi.start m4 a4.hp.rows)
    clear k3 k03 k34 k4 k24 m4 a4 hm4 z0
    clear z4 c4
    have z4 : W4.cell? ⟨z, 0, none⟩ = some (.pointer (some ⟨h, 0, none⟩)) := (SW.out W4 (Fo.refl _ _)).2.1
    have c4 : (w3.alloc (.map #[] 0)).cell? ⟨z, 0, none⟩ = some (.pointer (some ⟨h, 0, none⟩)) := by rw [← hW4]; exact z4
    have c5 : (w3.alloc (.map #[] 0)).cell? ⟨h, 1, none⟩ = some (.map (some mb)) := by rw [← hW4]; exact A4.out.hp.cell.2
    have GX : Hid (∀ k, G k = (F k).filter fun r => !goneV st mx opl r) := Lib.hid (fun k => by rw [← HG.out]; rfl)
    go_wp2_with (first
      | (at_range; rw [← hmn, ← hW4]; refine wpList_range_own _ rfl _ 114 rfl 2 117 keyed Try.underlying114 Rh mb ks.length _ rfl hown ?_; intro w0 hrg0 hg0 hs0)
      | go_in)
    go_frame
    obtain ⟨rg, hrgn⟩ : ∃ rg, rg = W4.heap.size := ⟨_, rfl⟩
    rw [← hrgn] at hrg0 hs0 ⊢
    have HR := Lib.hid hrgn
    have HST := Lib.hid (And.intro hrg0 hg0)
    clear hW4 hmn hrgn z4 c4 c5 hown hrg0 hg0 hs0 hmm
    go_loopw [8] (fun _ wr => ∃ (left : Lit → Bool) (cnt : Nat) (K : List Int), wr.ranges Try.prog 2 Rh mb rg ks.length (Tm ks S) left cnt ∧ Vi W4 wr B mn S ks F G left K)
      (fun _ wr => wr.rangeLeft mb rg)
    case atStart => exact ⟨_, _, [], HST.out.1, Vi.beside (Q := fun _ => False) V0.out (Fo.ofKept (kept_grown HST.out.2) _) (fun _ h => h.elim) LT4.out (fun q g hg => by have := (HS.out q g hg).1; have := K4.out.size; omega)⟩
    case round =>
      obtain ⟨left, cnt, K, hrg, hvi⟩ := hrel
      have VI := Lib.hid hvi
      clear hvi
      go_wp2_with (first
        | (at_next; refine wpList_next_ranges _ rfl _ rfl 2 keyed Rh (Value.int .i64) (fun v => v) (fun key kl hkey => by obtain ⟨x, rfl, _⟩ := Maps.keyOf_int_inv Try.underlying2 hkey; exact ⟨x, rfl⟩) (fun v y _ => ⟨v, rfl⟩) mb rg ks.length _ _ _ rfl hrg ?_ ?_)
        | go_in)
      · intro _ hl0
        obtain ⟨sw, e1, _⟩ := SW.out wr VI.out.fo
        have e2 := sw.cell.2
        have vd := Vi.done (mx := mx) (opl := opl) A.out K4.out (by rw [HG.out]; exact VI.out) hl0 HMN.out
        rw [HG.out] at vd
        obtain ⟨W6, hW6⟩ : ∃ W6, W6 = wr.setCell ⟨h, 1, none⟩ (.map (some mn)) := ⟨_, rfl⟩
        rw [← hW6] at vd
        have zh : z ≠ h := by have := heap_lt A.out.hp.hh; have := HZ.out; omega
        have e3 : W6.cell? ⟨z, 0, none⟩ = some (.pointer (some ⟨h, 0, none⟩)) := by rw [hW6]; exact set_far zh e1
        obtain ⟨x6, f6, o6⟩ := vd
        have ef : wr.frozen? ⟨h, 1, none⟩ = false := frozen_of_row _ _ _ _ _ sw.hh
        have le : allLen G K ≤ N := by
          rw [← NN.out]
          refine Nat.le_trans (sum_le (g := fun k => (F k).length) (fun k => ?_) K) (sum_sub A.out.hp.srt VI.out.srt (fun k hk => ((VI.out.mem k).1 hk).1))
          show (G k).length ≤ (F k).length
          rw [GX.out k]; exact List.length_filter_le _ _
        have CL2 := Lib.hid (len_any x6 (by omega))
        obtain ⟨N2, hN2⟩ : ∃ N2, allLen G K = N2 := ⟨_, rfl⟩
        rw [hN2] at CL2 le
        have X6 := Lib.hid x6; have F6 := Lib.hid f6; have O6 := Lib.hid o6; have HN2 := Lib.hid hN2
        clear x6 f6 o6 hrg sw hl0 hN2
        go_wp2_with fail
        rw [← hW6]
        refine CL2.out.mono ?_
        rintro e w7 ⟨rfl, k7⟩
        have K7 := Lib.hid k7
        clear k7 hW6 e1 e2 e3 ef
        go_wp2
        go_ret
        refine ⟨K, ?_, mn, _, X6.out.keep K7.out, F6.out.trans (Fo.ofKept K7.out _), O6.out⟩
        rw [NN.out, HN2.out]
        first
          | rfl
          | exact congrArg (fun t => Ending.returned (Value.int .i64 t)) (show wrap64 ((N : Int) - (N2 : Int)) = (N : Int) - N2 by simp only [wrap64]; omega)
      · intro x c kl y1 y2 w1 cnt1 hkl hlx hy hat hrg1 hlt hg1 hs1 hen
        obtain ⟨x', ex, rfl, hwx⟩ := Maps.keyOf_int_inv Try.underlying2 hkl
        cases ex
        obtain ⟨hxm, rfl⟩ := came (y := (y1, y2)) hy hat
        have hSl : ∀ q g, (S q).ownBlock = some g → g < W4.heap.size := fun q g hg => by have := (HS.out q g hg).1; have := K4.out.size; omega
        have v1 : Vi W4 w1 B mn S ks F G left K := VI.out.beside (Q := fun k => k = rg) ((Fo.refl _ wr).grown hg1 (fun j e => by cases e; exact .inl rfl)) (fun k e => by rw [e, HR.out]; exact Nat.le_refl _) LT4.out hSl
        have hmb : mb < W4.heap.size := A4.out.hp.hm.lt
        have hms : ∀ q, ¬ (S q).ownBlock = some mb := fun q e => row_ne (A4.out.hp.rows q) A4.out.hp.hm mb e rfl
        have hrs : ∀ q, ¬ (S q).ownBlock = some rg := fun q e => by have := hSl q rg e; have := HR.out; omega
        have V1 := Lib.hid v1
        have RG := Lib.hid hrg1
        have MB := Lib.hid (And.intro hmb (And.intro hms hrs))
        have MS : Hid (w1.rangeLeft mb rg < wr.rangeLeft mb rg) := Lib.hid (by rw [hrg1.left_eq, hrg.left_eq]; exact hlt)
        have rowx := v1.un x hlx
        have HX := Lib.hid (And.intro hlx hxm)
        have eG := GX.out x
        clear v1 hrg1 hrg hmb hms hrs hSl hlt hg1 hs1 hat hy hkl hlx hxm hwx
        rcases rowx.2 with ⟨hs, hf0⟩ | ⟨g, cap, cur, hs, _⟩
        · have hF : F x = [] := List.eq_nil_of_length_eq_zero hf0
          have hG0 : G x = [] := by rw [eG, hF]; rfl
          have CD := Lib.hid (deleteFunc_nil (w := w1) x _ #[.pointer (some ⟨z, 0, none⟩), .pointer (some ⟨y, 0, none⟩)] (goneV st mx opl) (enters_of Try.func66 (by kernel_rfl) rfl))
          rw [hs] at hen
          rw [hs]
          have HG0 := Lib.hid hG0
          clear rowx hs hf0 hF hG0 eG
          go_wp2_with fail
          refine CD.out.mono ?_
          rintro e w2 ⟨rfl, k2'⟩
          have K5 := Lib.hid k2'
          clear k2' hen
          go_wp2
          go_roundw
          case rel => exact ⟨_, cnt1, K, ranges_fo RG.out (Fo.ofKept K5.out (fun _ => False)) (fun h => h) (fun h => h), V1.out.out HX.out.1 (Fo.ofKept K5.out _) A.out.hp.apart HG0.out⟩
          case measure => rw [(ranges_fo RG.out (Fo.ofKept K5.out (fun _ => False)) (fun h => h) (fun h => h)).left_eq, ← RG.out.left_eq]; exact MS.out
        · have hP : PaysG w1 g x (F x) 66 #[.pointer (some ⟨z, 0, none⟩), .pointer (some ⟨y, 0, none⟩)] (goneV st mx opl) := by
            intro r hr V hV
            obtain ⟨sw, e1, e2, e3, e4⟩ := SW.out V (V1.out.fo.trans (hV.mono (fun k hk => .inr ⟨x, by rw [hs, hk]; rfl⟩)))
            exact vac1_w sw mx _ opl e4 _ _ e1 e2 e3 x r (A.out.hp.ok x r hr)
          have ho := rowx
          rw [hs] at ho
          have cd := deleteFunc_any (F x) ho _ #[.pointer (some ⟨z, 0, none⟩), .pointer (some ⟨y, 0, none⟩)] (goneV st mx opl) (enters_of Try.func66 (by kernel_rfl) rfl) hP
          rw [← eG] at cd
          have hcut : cut (S x) (G x).length = .slice (some ⟨g, 0, none⟩) (G x).length cap := by rw [hs]; rfl
          have HSX := Lib.hid hs
          obtain ⟨m, hm⟩ : ∃ m, (G x).length = m := ⟨_, rfl⟩
          obtain ⟨fl, hfl⟩ : ∃ fl, (F x).length = fl := ⟨_, rfl⟩
          rw [hm] at cd hcut
          rw [hfl] at cd hs
          have HM := Lib.hid hm
          have CD := Lib.hid cd; have HCUT := Lib.hid hcut
          have hwx : (Lit.int .i64 x).wf = true := A.out.hp.wf x HX.out.2
          have hkey := Lib.hid (key_of hwx)
          rw [hs] at hen
          rw [hs]
          clear rowx ho cd hcut hP hs eG hm hfl hwx
          go_wp2_with fail
          refine CD.out.mono ?_
          rintro e w2 ⟨rfl, r2, f2⟩
          have F2 : Hid (Fo (fun k => (S x).ownBlock = some k) w1 w2) := Lib.hid (f2.mono (fun k hk => by rw [HSX.out, hk]; rfl))
          have R2 := Lib.hid r2
          have RG2 := Lib.hid (ranges_fo RG.out F2.out (MB.out.2.1 x) (MB.out.2.2 x))
          clear r2 f2 hen
          by_cases h0m : m = 0
          · subst h0m
            have HG0 : Hid (G x = []) := Lib.hid (List.eq_nil_of_length_eq_zero HM.out)
            go_wp2
            go_roundw
            case rel => exact ⟨_, cnt1, K, RG2.out, V1.out.out HX.out.1 F2.out A.out.hp.apart HG0.out⟩
            case measure => rw [RG2.out.left_eq, ← RG.out.left_eq]; exact MS.out
          · have x5 : (0 : Int) < (m : Int) := by omega
            have tn := V1.out.turn HX.out.1 F2.out A.out.hp.apart
            have HMAP := Lib.hid tn.1
            have hKl : K.length < maxLen := by
              have h1 := sum_sub (f := fun _ => 1) A.out.hp.srt V1.out.srt (fun k hk => ((V1.out.mem k).1 hk).1)
              have h2 : ∀ l : List Int, (l.map fun _ => 1).sum = l.length := fun l => by induction l with
                | nil => rfl
                | cons a l ih => rw [List.map_cons, List.sum_cons, ih, List.length_cons]; omega
              rw [h2, h2] at h1
              have := HKS.out
              unfold maxLen; omega
            have HKL := Lib.hid hKl
            clear tn hKl
            go_wp2_with (at_mapUpdate; go_must (refine wpList_mapUpdate_in _ rfl _ _ _ 114 rfl 2 117 keyed Try.underlying114 Rh mn K.length _ rfl HMAP.out HKL.out _ _ _ rfl rfl hkey.out (.held (.slice (some ⟨g, 0, none⟩) m cap)) [] rfl ?_))
            intro w6 hm6 ht6
            have VN := Lib.hid (V1.out.into (w6 := w6) HX.out.1 HX.out.2 F2.out A.out.hp.apart (fun e => by have := HM.out; rw [e] at this; simp at this; omega) (by rw [HM.out, HCUT.out]; have := R2.out; exact this) (by rw [HM.out, HCUT.out]; exact hm6) ht6)
            have RG6 := Lib.hid (ranges_fo RG2.out ((Fo.refl (fun k => k = mn) w2).turned ht6 rfl) (by have h1 := A.out.hp.hm.lt; have := HMN.out; omega) (by have := LT4.out; have := HR.out; omega))
            clear hm6 ht6
            go_wp2
            go_roundw
            case rel => exact ⟨_, cnt1, _, RG6.out, VN.out⟩
            case measure => rw [RG6.out.left_eq, ← RG.out.left_eq]; exact MS.out
end Go.Proofs.Ytdjhcdgehmpikaa
