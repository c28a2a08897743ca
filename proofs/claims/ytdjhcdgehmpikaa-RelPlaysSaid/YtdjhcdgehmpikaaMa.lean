/-
  Pf, Pg, Ph, Pi, Pj, Pk in one text.
-/
import Derived.Test.YtdjhcdgehmpikaaPe
namespace Go.Proofs.Ytdjhcdgehmpikaa
set_option linter.unusedVariables false
open Go.RowKit Go.Maps

variable {w w' : World} {B q h : Nat} {v lv : Value} {st : List Nat} {l : Fl}

/-- Get, of the one list: the text, if there is such a row. -/
def flGet (st : List Nat) (V : Vw) (key : Int) (l : Fl) : Option ByteArray := match flFind (sees st V) key l with
  | some i => match l[i]? with
    | some x => some x.2.txt
    | none => none
  | none => none

def getV (key : Int) : Option ByteArray → Value
  | some x => .tuple #[.agg #[.int .i64 key, .string x], .bool true]
  | none => .tuple #[.agg #[.int .i64 0, .string ⟨#[]⟩], .bool false]

theorem flGet_rl {l : Fl} {F : Int → List Vr} (h : Rl l F) (st : List Nat) (V : Vw) (key : Int) (t : Tab) (hF : t.F = F) :
    getH st V key t = match flGet st V key l with | some x => ⟨0, [(key, x)], t⟩ | none => ⟨4, [], t⟩ := by
  unfold getH flGet
  rw [hF]
  cases hf : flFind (sees st V) key l with
  | none =>
    have := find_none hf
    rw [← h key] at this
    rw [this]
  | some i =>
    obtain ⟨j, r, h1, h2, h3, _⟩ := find_some hf
    rw [← h key] at h2 h3
    simp only [h1, h2, h3]

set_option maxHeartbeats 1000000 in
set_option maxRecDepth 100000 in
theorem rget_any (m : Rm w B q v st) (a : Rhe w B q h lv l) (mx own : Int) (sl : Value) (opl : List Int) (hsl : RdI w sl opl) (key : Int) :
    Calls Try.prog 48 #[.pointer (some ⟨h, 0, none⟩), .agg #[.int .i64 mx, sl, .int .i64 own], .int .i64 key] w fun e w' => e = .returned (getV key (flGet st ⟨mx, opl, own⟩ key l)) ∧ Kept w w' [] := by
  obtain ⟨W1, hW1⟩ : ∃ W1, W1 = w.alloc (.cells #[.int .i64 mx, sl, .int .i64 own] 50) := ⟨_, rfl⟩
  obtain ⟨W2, hW2⟩ : ∃ W2, W2 = W1.alloc (.cells #[.int .i64 0, .string ⟨#[]⟩] 55) := ⟨_, rfl⟩
  have k1 : Kept w W1 [] := by rw [hW1]; exact (Kept.refl w []).alloc _
  have k12 : Kept W1 W2 [] := by rw [hW2]; exact (Kept.refl W1 []).alloc _
  have k2 := k1.trans k12 (by simp)
  have hz : W1.heap.size = w.heap.size + 1 := by rw [hW1]; simp
  have g1 : Bw W2 w.heap.size mx own sl := k12.heap (by simp) (by rw [hW1]; exact heap_alloc_new w _)
  have g2 : W2.heap[w.heap.size + 1]? = some (.cells #[.int .i64 0, .string ⟨#[]⟩] 55 (0, 0)) := by rw [← hz, hW2]; exact heap_alloc_new W1 _
  have K2 := Lib.hid k2
  have A := Lib.hid (a.keep k2)
  have CF := Lib.hid (rfind_any (m.keep k2) (a.keep k2) mx own sl opl (hsl.keep k2) key)
  have G2 := Lib.hid g2
  obtain ⟨z0, z1, z2⟩ := g1.cells
  obtain ⟨sa, sc, rfl, _⟩ := hsl
  clear m a k1 k12 k2 hz g1 g2
  rcases find_eq (P := sees st ⟨mx, opl, own⟩) (k := key) (l := l) with ⟨f1, f2⟩ | ⟨i, ⟨k, r⟩, f1, f2, f3, f4, f5⟩
  · have R : Hid (getV key (flGet st ⟨mx, opl, own⟩ key l) = .tuple #[.agg #[.int .i64 0, .string ⟨#[]⟩], .bool false]) := Lib.hid (by simp only [flGet, f1, getV])
    rw [f2] at CF
    clear f1 f2
    go_enter Try.func48, Try.ntmps48
    go_wp2_with fail
    rw [← hW1, ← hW2]
    clear hW1 hW2
    refine CF.out.mono ?_
    rintro e w3 ⟨rfl, k3⟩
    have G3 := Lib.hid (k3.heap (by simp) G2.out)
    have K3 := Lib.hid (K2.out.trans k3 (by simp))
    clear k3 z0 z1 z2
    obtain ⟨e0, e1, e2, e3⟩ := res_cells G3.out
    go_wp2
    obtain ⟨d0, d1⟩ := row_set G3.out (.int .i64 0) (.string ⟨#[]⟩)
    exact bodyPost_ret (v := .tuple #[.agg #[.int .i64 0, .string ⟨#[]⟩], .bool false]) (by simp [results, Try.results48, go_sem, d0, d1]) rfl ⟨by rw [R.out], (K3.out.setCell (p := ⟨w.heap.size + 1, 0, none⟩) (.inr (by simp)) _).setCell (p := ⟨w.heap.size + 1, 1, none⟩) (.inr (by simp)) _⟩
  · have R : Hid (getV key (flGet st ⟨mx, opl, own⟩ key l) = .tuple #[.agg #[.int .i64 key, .string r.txt], .bool true]) := Lib.hid (by simp only [flGet, f1, f3, getV])
    simp only at f4
    subst f4
    rw [f2] at CF
    have il : i < l.length := (List.getElem?_eq_some_iff.1 f3).1
    have x1 : (i : Int) < (l.length : Int) := by omega
    have x0 : (0 : Int) ≤ (i : Int) := by omega
    have HR := Lib.hid f3
    obtain ⟨u, c, hlv, hlen, _⟩ := A.out.shape
    have LV := Lib.hid hlv
    clear f1 f2 f3 f5 hlv
    go_enter Try.func48, Try.ntmps48
    go_wp2_with fail
    rw [← hW1, ← hW2]
    clear hW1 hW2
    refine CF.out.mono ?_
    rintro e w3 ⟨rfl, k3⟩
    have G3 := Lib.hid (k3.heap (by simp) G2.out)
    have K3 := Lib.hid (K2.out.trans k3 (by simp))
    have A3 := A.out.keep k3
    have c1 := A3.cell.2
    rw [LV.out] at c1
    obtain ⟨u', c', hlv', _, hsh⟩ := A3.shape
    rw [LV.out] at hlv'
    simp only [Value.slice.injEq, true_and] at hlv'
    obtain ⟨rfl, rfl⟩ := hlv'
    obtain ⟨g, rfl, hnc, _, hcell⟩ := hsh (by omega)
    obtain ⟨y0, y1, _, _⟩ := hcell i k r HR.out
    clear k3 z0 z1 z2 A3 hsh hcell
    obtain ⟨e0, e1, e2, e3⟩ := res_cells G3.out
    obtain ⟨rt, rb, rd⟩ := r
    simp only at y0 y1 R
    go_wp2
    obtain ⟨d0, d1⟩ := row_set G3.out (.int .i64 k) (.string rt)
    exact bodyPost_ret (v := .tuple #[.agg #[.int .i64 k, .string rt], .bool true]) (by simp [results, Try.results48, go_sem, d0, d1]) rfl ⟨by rw [R.out], (K3.out.setCell (p := ⟨w.heap.size + 1, 0, none⟩) (.inr (by simp)) _).setCell (p := ⟨w.heap.size + 1, 1, none⟩) (.inr (by simp)) _⟩
end Go.Proofs.Ytdjhcdgehmpikaa

namespace Go.Proofs.Ytdjhcdgehmpikaa
set_option linter.unusedVariables false
open Go.RowKit Go.Maps

variable {w w' : World} {B q h : Nat} {v lv : Value} {st : List Nat} {l : Fl}

theorem flScan_snoc (P : Vr → Bool) (l : Fl) (x : Int × Vr) : flScan P (l ++ [x]) = if P x.2 then insR (x.1, x.2.txt) (flScan P l) else flScan P l := by
  simp only [flScan, List.foldl_append, List.foldl_cons, List.foldl_nil]

theorem flScan_take {P : Vr → Bool} {l : Fl} {i : Nat} {x : Int × Vr} (h : l[i]? = some x) : flScan P (l.take (i + 1)) = if P x.2 then insR (x.1, x.2.txt) (flScan P (l.take i)) else flScan P (l.take i) := by
  rw [List.take_add_one, h]
  exact flScan_snoc P _ x

theorem insR_length (x : Int × ByteArray) : ∀ R : List (Int × ByteArray), (insR x R).length = R.length + 1
  | [] => rfl
  | a :: R => by
    unfold insR
    split
    · rfl
    · rw [List.length_cons, insR_length x R]; rfl

theorem mem_insR {x y : Int × ByteArray} : ∀ {R : List (Int × ByteArray)}, y ∈ insR x R → y = x ∨ y ∈ R
  | [], h => by simp [insR] at h; exact .inl h
  | a :: R, h => by
    unfold insR at h
    split at h
    · simpa using h
    · rcases List.mem_cons.1 h with h1 | h1
      · exact .inr (by simp [h1])
      · rcases mem_insR h1 with h2 | h2
        · exact .inl h2
        · exact .inr (by simp [h2])

theorem insR_sorted {x : Int × ByteArray} : ∀ {R : List (Int × ByteArray)}, R.Pairwise (fun a b => a.1 ≤ b.1) → (insR x R).Pairwise (fun a b => a.1 ≤ b.1)
  | [], _ => by simp [insR]
  | a :: R, h => by
    rw [List.pairwise_cons] at h
    unfold insR
    split
    · rename_i hx
      refine List.pairwise_cons.2 ⟨fun y hy => ?_, List.pairwise_cons.2 h⟩
      rcases List.mem_cons.1 hy with rfl | h1
      · omega
      · have := h.1 y h1; omega
    · rename_i hx
      refine List.pairwise_cons.2 ⟨fun y hy => ?_, insR_sorted h.2⟩
      rcases mem_insR hy with rfl | h1
      · omega
      · exact h.1 y h1

theorem flScan_sorted (P : Vr → Bool) (l : Fl) : (flScan P l).Pairwise (fun a b => a.1 ≤ b.1) := by
  have : ∀ (l : Fl) (R : List (Int × ByteArray)), R.Pairwise (fun a b => a.1 ≤ b.1) → (l.foldl (fun out y => if P y.2 then insR (y.1, y.2.txt) out else out) R).Pairwise (fun a b => a.1 ≤ b.1) := by
    intro l
    induction l with
    | nil => intro R h; exact h
    | cons y l ih =>
      intro R h
      rw [List.foldl_cons]
      apply ih
      split
      · exact insR_sorted h
      · exact h
  exact this l [] List.Pairwise.nil

theorem flScan_le (P : Vr → Bool) (l : Fl) : (flScan P l).length ≤ l.length := by
  have : ∀ (l : Fl) (R : List (Int × ByteArray)), (l.foldl (fun out y => if P y.2 then insR (y.1, y.2.txt) out else out) R).length ≤ R.length + l.length := by
    intro l
    induction l with
    | nil => intro R; simp
    | cons y l ih =>
      intro R
      rw [List.foldl_cons]
      refine Nat.le_trans (ih _) ?_
      split
      · rw [insR_length, List.length_cons]; omega
      · rw [List.length_cons]; omega
  have := this l []
  simpa [flScan] using this

/-- A row is laid where the document finds its place. -/
theorem insR_at {x : Int × ByteArray} {R : List (Int × ByteArray)} {a : Nat} (hs : R.Pairwise (fun a b => a.1 ≤ b.1)) (ha : a ≤ R.length) (h1 : ∀ y ∈ R.drop a, x.1 < y.1) (h2 : ∀ y, R[a - 1]? = some y → 0 < a → y.1 ≤ x.1) : insR x R = R.take a ++ [x] ++ R.drop a := by
  conv => lhs; rw [← List.take_append_drop a R]
  have hle : ∀ y ∈ R.take a, y.1 ≤ x.1 := by
    intro y hy
    obtain ⟨j, hj⟩ := List.getElem?_of_mem hy
    have hja : j < a := by
      have h9 := (List.getElem?_eq_some_iff.1 hj).1
      rw [List.length_take] at h9
      omega
    rw [List.getElem?_take_of_lt hja] at hj
    obtain ⟨z, hz⟩ : ∃ z, R[a - 1]? = some z := ⟨_, List.getElem?_eq_getElem (by omega)⟩
    have hz1 := h2 z hz (by omega)
    by_cases e : j = a - 1
    · subst e; rw [hz] at hj; cases hj; exact hz1
    · have h9 := List.pairwise_iff_getElem.1 hs j (a - 1) (by omega) (by omega) (by omega)
      have e1 := (List.getElem?_eq_some_iff.1 hj).2
      have e2 := (List.getElem?_eq_some_iff.1 hz).2
      rw [e1, e2] at h9
      omega
  rw [insR_le x (R.drop a) (R.take a) hle, insR_gt x _ h1, List.append_assoc]
  rfl

/-- A part of rows, as what an append reads. -/
theorem src_rows {base g n c a m k : Nat} {R : List (Int × ByteArray)} (ho : w.ownsRow base 55 2 (.slice (some ⟨g, 0, none⟩) n c) n (rcl R)) (hR : R.length = n) (d : Nat) (hm : a + m ≤ n) :
    Src Try.prog 2 59 (.slice (some ⟨g, a * 2, none⟩) m d) m (rcl ((R.drop a).take m)) w := by
  subst hR
  refine Src.ofSlice w Try.underlying59 ⟨g, a * 2, none⟩ m d _ ?_ (fun j u hu => ?_) ?_
  · rw [rcl_length]; simp; omega
  · have e : rcl R = rcl (R.take a) ++ (rcl ((R.drop a).take m) ++ rcl ((R.drop a).drop m)) := by
      rw [← rcl_append, List.take_append_drop, ← rcl_append, List.take_append_drop]
    have hl : (rcl (R.take a)).length = a * 2 := by rw [rcl_length]; simp; omega
    have hj : j < (rcl ((R.drop a).take m)).length := (List.getElem?_eq_some_iff.1 hu).1
    have := World.ownsRow.cells ho (g := g) rfl (a * 2 + j) u (by
      rw [e, List.getElem?_append_right (by omega), hl, show a * 2 + j - a * 2 = j by omega, List.getElem?_append_left hj]
      exact hu)
    simpa [Addr.add_lit] using this
  · intro u hu
    simp only [rcl, List.mem_flatMap] at hu
    obtain ⟨y, _, hu⟩ := hu
    simp at hu
    rcases hu with rfl | rfl <;> rfl

theorem src_row {W : World} {o : Obj} {z : Nat} (key : Int) (txt : ByteArray) (hz : W.heap.size = z) (ho : o = .cells #[.int .i64 key, .string txt] 55) :
    Src Try.prog 2 59 (.slice (some ⟨z, 0, none⟩) 1 1) 1 [.int .i64 key, .string txt] (W.alloc o) := by
  subst hz; subst ho
  have hb := heap_alloc_new W (.cells #[.int .i64 key, .string txt] 55)
  exact Src.ofSlice _ Try.underlying59 ⟨W.heap.size, 0, none⟩ 1 1 _ rfl (fun j u hu => by
    rw [Addr.add_lit, cell_of_row _ _ _ _ _ _ hb, Nat.zero_add]
    simpa using hu) (by intro u hu; simp at hu; rcases hu with rfl | rfl <;> rfl)

set_option maxHeartbeats 4000000 in
set_option maxRecDepth 100000 in
theorem rscan_any (m : Rm w B q v st) (a : Rhe w B q h lv l) (mx own : Int) (sl : Value) (opl : List Int) (hsl : RdI w sl opl) (hl : l.length ≤ 1000) :
    Calls Try.prog 49 #[.pointer (some ⟨h, 0, none⟩), .agg #[.int .i64 mx, sl, .int .i64 own]] w fun e w' => ∃ v', e = .returned v' ∧ w'.ownsRow w.heap.size 55 2 v' (flScan (sees st ⟨mx, opl, own⟩) l).length (rcl (flScan (sees st ⟨mx, opl, own⟩) l)) ∧ Kept w w' [] := by
  obtain ⟨u, c, hlv, hlen, hsh⟩ := a.shape
  obtain ⟨W1, hW1⟩ : ∃ W1, W1 = w.alloc (.cells #[.int .i64 mx, sl, .int .i64 own] 50) := ⟨_, rfl⟩
  have k1 : Kept w W1 [] := by rw [hW1]; exact (Kept.refl w []).alloc _
  obtain ⟨z, hz⟩ : ∃ z, z = w.heap.size := ⟨_, rfl⟩
  have g1 : Bw W1 z mx own sl := by rw [hW1, hz]; exact heap_alloc_new w _
  have G1 := Lib.hid g1; have K1 := Lib.hid k1
  obtain ⟨n, hn⟩ : ∃ n, l.length = n := ⟨_, rfl⟩
  have HN := Lib.hid hn; have HSH := Lib.hid hsh; have A := Lib.hid a
  obtain ⟨P, hP⟩ : ∃ P, sees st ⟨mx, opl, own⟩ = P := ⟨_, rfl⟩
  have CS : Hid (∀ V (j : Nat) k r, Kept W1 V [] → l[j]? = some (k, r) → Calls Try.prog 65 #[.pointer (some ⟨h, 0, none⟩), .agg #[.int .i64 mx, sl, .int .i64 own], .int .i64 j] V fun e w' => e = .returned (.bool (P r)) ∧ Kept V w' []) := Lib.hid (fun V j k r hV hr => by
    rw [← hP]
    exact rsees_h (m.keep (k1.trans hV (by simp))) (a.keep (k1.trans hV (by simp))) mx own sl opl (hsl.keep (k1.trans hV (by simp))) hr)
  obtain ⟨sa, sc, rfl, _⟩ := hsl
  rw [hn] at hlen hl
  rw [hP]
  have LV := Lib.hid hlv
  rw [hn] at LV
  obtain ⟨i0, hi0, hz0, hz1, hzb⟩ := info_parts Try.infoRow
  have I := Lib.hid (And.intro hi0 (And.intro hz0 (And.intro hz1 hzb)))
  clear m a g1 k1 hsh hlv hi0 hz0 hz1 hzb
  go_enter Try.func49, Try.ntmps49
  go_wp2_with fail
  rw [← hW1, ← hz]
  clear hW1 hz hn hP
  go_loopw [5, 6, 7, 8] (fun s t _ _ wr => ∃ (i : Nat) (R : List (Int × ByteArray)), t = .int .i64 i ∧ i ≤ n ∧ flScan P (l.take i) = R ∧ R.length ≤ i ∧ (R = [] → s = .slice none 0 0) ∧ wr.ownsRow W1.heap.size 55 2 s R.length (rcl R) ∧ Kept W1 wr []) (fun _ t _ _ _ => n - (intOf t).toNat)
  case atStart => exact ⟨0, [], rfl, Nat.zero_le _, rfl, Nat.le_refl _, fun _ => rfl, World.ownsRow_nil _ _ _ _, Kept.refl W1 []⟩
  case round =>
    obtain ⟨i, R, rfl, hi, hR, hRi, hnil, ho, hkw⟩ := hrel
    have O := Lib.hid ho; have K := Lib.hid hkw; have HR := Lib.hid hR; have NIL := Lib.hid hnil
    obtain ⟨ra, rc, hs5⟩ := ownsRow_shape ho
    have SRT := Lib.hid (show R.Pairwise (fun a b => a.1 ≤ b.1) by rw [← hR]; exact flScan_sorted P _)
    have c1 := (A.out.keep (K1.out.trans hkw (by simp))).cell.2
    rw [LV.out] at c1
    obtain ⟨rn, hrn⟩ : ∃ rn, R.length = rn := ⟨_, rfl⟩
    have HRN := Lib.hid hrn
    rw [hrn] at hs5 hRi O
    clear ho hkw hR hnil
    subst hs5
    by_cases hlt : i < n
    · obtain ⟨⟨k, r⟩, hr⟩ : ∃ x, l[i]? = some x := ⟨_, List.getElem?_eq_getElem (by have := HN.out; omega)⟩
      obtain ⟨g, rfl, hnc, _, hcell⟩ := HSH.out (by have := HN.out; omega)
      obtain ⟨c2, c3, _⟩ := hcell i k r hr
      have kk := K1.out.trans K.out (by simp)
      replace c2 := kk.cell (p := ⟨g, i * 4, none⟩) (by simp) c2
      replace c3 := kk.cell (p := ⟨g, i * 4 + 1, none⟩) (by simp) c3
      obtain ⟨z0, z1, z2⟩ := (G1.out.keep K.out).cells
      have x1 : (i : Int) < (n : Int) := by omega
      have HLR := Lib.hid hr
      have cs := CS.out wr i k r K.out hr
      obtain ⟨b, hb⟩ : ∃ b, P r = b := ⟨_, rfl⟩
      rw [hb] at cs
      have CC := Lib.hid cs; have HB := Lib.hid hb
      clear hnc hcell hr cs hb kk
      cases b
      · have RT : Hid (flScan P (l.take (i + 1)) = R) := Lib.hid (by rw [flScan_take HLR.out, HB.out]; exact HR.out)
        go_wp2_with fail
        refine CC.out.mono ?_
        rintro e w5 ⟨rfl, k5⟩
        have K5 := Lib.hid (K.out.trans k5 (by simp)); have O5 := Lib.hid (ownsRow_fr O.out (Fr.ofKept k5 0 []) (by simp))
        clear k5 c1 c2 c3 z0 z1 z2
        go_wp2
        go_roundw
        case rel => exact ⟨i + 1, R, by go_num, by omega, RT.out, by have := HRN.out; omega, NIL.out, by rw [HRN.out]; exact O5.out, K5.out⟩
        case measure => simp [intOf]; omega
      · have RT : Hid (flScan P (l.take (i + 1)) = insR (k, r.txt) R) := Lib.hid (by rw [flScan_take HLR.out, HB.out, HR.out]; rfl)
        go_wp2_with fail
        refine CC.out.mono ?_
        rintro e w5 ⟨rfl, k5⟩
        have K5 := Lib.hid (K.out.trans k5 (by simp)); have O5 := Lib.hid (ownsRow_fr O.out (Fr.ofKept k5 0 []) (by simp))
        replace c1 := k5.cell (p := ⟨h, 1, none⟩) (by simp) c1
        replace c2 := k5.cell (p := ⟨g, i * 4, none⟩) (by simp) c2
        replace c3 := k5.cell (p := ⟨g, i * 4 + 1, none⟩) (by simp) c3
        have HC := Lib.hid (And.intro c1 (And.intro c2 c3))
        clear k5 z0 z1 z2 c1 c2 c3
        go_wp2
        go_loopw [7] (fun t wx => ∃ at1 : Nat, t = .int .i64 at1 ∧ at1 ≤ rn ∧ (∀ y ∈ R.drop at1, k < y.1) ∧ Kept w5 wx []) (fun t _ => (intOf t).toNat)
        case atStart => exact ⟨rn, rfl, Nat.le_refl _, by rw [List.drop_of_length_le (by have := HRN.out; omega)]; simp, Kept.refl w5 []⟩
        case round =>
          obtain ⟨at1, rfl, hat, hgt, hkx⟩ := hrel
          have GT := Lib.hid hgt; have KX := Lib.hid hkx
          have O6 := Lib.hid (ownsRow_fr O5.out (Fr.ofKept hkx 0 []) (by simp))
          have c1 := hkx.cell (p := ⟨h, 1, none⟩) (by simp) HC.out.1
          have c2 := hkx.cell (p := ⟨g, i * 4, none⟩) (by simp) HC.out.2.1
          have c3 := hkx.cell (p := ⟨g, i * 4 + 1, none⟩) (by simp) HC.out.2.2
          clear hgt hkx
          by_cases h0 : at1 = 0
          · subst h0
            have INS : Hid (insR (k, r.txt) R = R.take 0 ++ [(k, r.txt)] ++ R.drop 0) := Lib.hid (insR_at SRT.out (Nat.zero_le _) GT.out (fun y _ h => by omega))
            by_cases hne : R = []
            · have hs := NIL.out hne
              simp only [Value.slice.injEq] at hs
              obtain ⟨rfl, rfl, rfl⟩ := hs
              have HNE := Lib.hid hne
              go_wp2
              go_quiet (fail)
              obtain ⟨wq, hq⟩ : ∃ wq, wq = (wr.drewN nq) := ⟨_, rfl⟩
              have kq : Kept w5 wq [] := by rw [hq]; exact KX.out.drewN _
              have O7 := Lib.hid (ownsRow_fr O5.out (Fr.ofKept kq 0 []) (by simp))
              have KQ := Lib.hid kq
              clear c1 c2 c3
              have c1 := kq.cell (p := ⟨h, 1, none⟩) (by simp) HC.out.1
              have c2 := kq.cell (p := ⟨g, i * 4, none⟩) (by simp) HC.out.2.1
              have c3 := kq.cell (p := ⟨g, i * 4 + 1, none⟩) (by simp) HC.out.2.2
              obtain ⟨bq, hbq⟩ : ∃ bq, bq = wq.heap.size := ⟨_, rfl⟩
              have HBQ := Lib.hid hbq
              clear kq hbq
              rw [← hq]
              clear hq
              go_wp2_with (at_builtin; refine wpList_append_all _ rfl (.tmp 52) (.tmp 61) 59 59 rfl bq 55 i0 _ 2 24 Try.underlying59 I.out.1 I.out.2.1 I.out.2.2.1 I.out.2.2.2 rfl (.slice none 0 0) 0 [] rfl ?hown _ 1 [.int .i64 k, .string r.txt] rfl ?hsrc ?b1 ?b2 ?base ?next)
              case hown => exact World.ownsRow_nil _ _ _ _
              case hsrc => exact src_row k r.txt rfl rfl
              case b1 => unfold maxLen; omega
              case b2 => omega
              case base => rw [HBQ.out]; exact Nat.le_trans (Kept.refl wq []).size ((Kept.refl wq []).alloc _).size
              case next =>
                intro v2 w2 ho2 _ hg2 _
                obtain ⟨a2, d2, hs2⟩ := ownsRow_shape ho2
                have k2 : Kept wq w2 [] := ((Kept.refl wq []).alloc _).trans (kept_grown hg2) (by simp)
                have KW2 := Lib.hid k2
                have O2 := Lib.hid (show w2.ownsRow bq 55 2 (.slice a2 (0 + 1) d2) (0 + 1) (rcl (R.take 0) ++ [.int .i64 k, .string r.txt]) by rw [← hs2]; exact ho2)
                clear k2
                clear ho2 hg2 c1 c2 c3
                subst hs2
                go_wp2_with (at_builtin; refine wpList_append_all _ rfl (.tmp 63) (.tmp 66) 59 59 rfl bq 55 i0 _ 2 24 Try.underlying59 I.out.1 I.out.2.1 I.out.2.2.1 I.out.2.2.2 rfl (.slice a2 (0 + 1) d2) (0 + 1) (rcl (R.take 0) ++ [.int .i64 k, .string r.txt]) rfl O2.out _ 0 [] rfl ?hsrc ?b1 ?b2 ?base ?next)
                case hsrc => exact Src.ofNil _ Try.underlying59 0
                case b1 => unfold maxLen; omega
                case b2 => omega
                case base => rw [HBQ.out]; exact KW2.out.size
                case next =>
                  intro v3 w3 ho3 _ hg3 _
                  have e9 : rcl (R.take 0) ++ [.int .i64 k, .string r.txt] ++ [] = rcl (insR (k, r.txt) R) := by
                    rw [INS.out, rcl_append, rcl_append]
                    rw [HNE.out]
                    rfl
                  have O3 : Hid (w3.ownsRow bq 55 2 v3 (insR (k, r.txt) R).length (rcl (insR (k, r.txt) R))) := Lib.hid (by
                    have e8 : (insR (k, r.txt) R).length = 0 + 1 + 0 := by rw [insR_length]; have := HRN.out; omega
                    rw [e8, ← e9]
                    first | exact ho3 | simpa using ho3)
                  have K3 := Lib.hid ((KW2.out.grown hg3 (fun j hj => .inr (by have := (World.ownsRow.lt O2.out j hj).1; rw [HBQ.out] at this; exact this))))
                  obtain ⟨a3, d3, hs3⟩ := ownsRow_shape ho3
                  clear ho3 hg3 e9
                  subst hs3
                  go_wp2
                  go_roundw
                  case rel => exact ⟨i + 1, insR (k, r.txt) R, by go_num, by omega, RT.out, by rw [insR_length]; have := HRN.out; omega, fun e => by have := congrArg List.length e; rw [insR_length] at this; simp at this, ownsRow_low O3.out (by rw [HBQ.out]; exact Nat.le_trans K5.out.size KQ.out.size), K5.out.trans (KQ.out.trans K3.out (by simp)) (by simp)⟩
                  case measure => simp [intOf]; omega
            · have hpos : 0 < rn := by
                have := HRN.out
                have h9 := List.length_pos_iff.2 hne
                omega
              obtain ⟨rg, rfl, hrc, _⟩ := own_at O6.out hpos
              have x2 : (0 : Int) ≤ (rc : Int) := by omega
              have x3 : ((rc : Int) == 0) = false := by rw [beq_eq_false_iff_ne]; omega
              have x4 : ¬ rc = 0 := by omega
              have x5 : (0 : Int) ≤ (rn : Int) := by omega
              go_wp2
              go_quiet (fail)
              obtain ⟨wq, hq⟩ : ∃ wq, wq = (wr.drewN nq) := ⟨_, rfl⟩
              have kq : Kept w5 wq [] := by rw [hq]; exact KX.out.drewN _
              have O7 := Lib.hid (ownsRow_fr O5.out (Fr.ofKept kq 0 []) (by simp))
              have KQ := Lib.hid kq
              clear c1 c2 c3
              have c1 := kq.cell (p := ⟨h, 1, none⟩) (by simp) HC.out.1
              have c2 := kq.cell (p := ⟨g, i * 4, none⟩) (by simp) HC.out.2.1
              have c3 := kq.cell (p := ⟨g, i * 4 + 1, none⟩) (by simp) HC.out.2.2
              obtain ⟨bq, hbq⟩ : ∃ bq, bq = wq.heap.size := ⟨_, rfl⟩
              have HBQ := Lib.hid hbq
              clear kq hbq
              rw [← hq]
              clear hq
              go_wp2_with (at_builtin; refine wpList_append_all _ rfl (.tmp 52) (.tmp 61) 59 59 rfl bq 55 i0 _ 2 24 Try.underlying59 I.out.1 I.out.2.1 I.out.2.2.1 I.out.2.2.2 rfl (.slice none 0 0) 0 [] rfl ?hown _ 1 [.int .i64 k, .string r.txt] rfl ?hsrc ?b1 ?b2 ?base ?next)
              case hown => exact World.ownsRow_nil _ _ _ _
              case hsrc => exact src_row k r.txt rfl rfl
              case b1 => unfold maxLen; omega
              case b2 => omega
              case base => rw [HBQ.out]; exact Nat.le_trans (Kept.refl wq []).size ((Kept.refl wq []).alloc _).size
              case next =>
                intro v2 w2 ho2 _ hg2 _
                obtain ⟨a2, d2, hs2⟩ := ownsRow_shape ho2
                have k2 : Kept wq w2 [] := ((Kept.refl wq []).alloc _).trans (kept_grown hg2) (by simp)
                have KW2 := Lib.hid k2
                have O2 := Lib.hid (show w2.ownsRow bq 55 2 (.slice a2 (0 + 1) d2) (0 + 1) (rcl (R.take 0) ++ [.int .i64 k, .string r.txt]) by rw [← hs2]; exact ho2)
                have O8 := Lib.hid (ownsRow_fr O7.out (Fr.ofKept k2 0 []) (by simp))
                clear k2
                clear ho2 hg2 c1 c2 c3
                subst hs2
                have SR : Hid (Src Try.prog 2 59 (.slice (some ⟨rg, 0, none⟩) rn rc) rn (rcl R) w2) := Lib.hid (by
                  have h9 := src_rows (k := 0) (a := 0) (m := rn) O8.out HRN.out rc (by omega)
                  rw [List.drop_zero, List.take_of_length_le (by rw [HRN.out]; exact Nat.le_refl _), Nat.zero_mul] at h9
                  exact h9)
                go_wp2_with (at_builtin; refine wpList_append_all _ rfl (.tmp 63) (.tmp 66) 59 59 rfl bq 55 i0 _ 2 24 Try.underlying59 I.out.1 I.out.2.1 I.out.2.2.1 I.out.2.2.2 rfl (.slice a2 (0 + 1) d2) (0 + 1) (rcl (R.take 0) ++ [.int .i64 k, .string r.txt]) rfl O2.out _ rn (rcl R) rfl ?hsrc ?b1 ?b2 ?base ?next)
                case hsrc => exact SR.out
                case b1 => unfold maxLen; omega
                case b2 => omega
                case base => rw [HBQ.out]; exact KW2.out.size
                case next =>
                  intro v3 w3 ho3 _ hg3 _
                  have e9 : rcl (R.take 0) ++ [.int .i64 k, .string r.txt] ++ rcl R = rcl (insR (k, r.txt) R) := by
                    rw [INS.out, rcl_append, rcl_append]
                    rw [List.drop_zero]
                    rfl
                  have O3 : Hid (w3.ownsRow bq 55 2 v3 (insR (k, r.txt) R).length (rcl (insR (k, r.txt) R))) := Lib.hid (by
                    have e8 : (insR (k, r.txt) R).length = 0 + 1 + rn := by rw [insR_length]; have := HRN.out; omega
                    rw [e8, ← e9]
                    first | exact ho3 | simpa using ho3)
                  have K3 := Lib.hid ((KW2.out.grown hg3 (fun j hj => .inr (by have := (World.ownsRow.lt O2.out j hj).1; rw [HBQ.out] at this; exact this))))
                  obtain ⟨a3, d3, hs3⟩ := ownsRow_shape ho3
                  clear ho3 hg3 e9
                  subst hs3
                  go_wp2
                  go_roundw
                  case rel => exact ⟨i + 1, insR (k, r.txt) R, by go_num, by omega, RT.out, by rw [insR_length]; have := HRN.out; omega, fun e => by have := congrArg List.length e; rw [insR_length] at this; simp at this, ownsRow_low O3.out (by rw [HBQ.out]; exact Nat.le_trans K5.out.size KQ.out.size), K5.out.trans (KQ.out.trans K3.out (by simp)) (by simp)⟩
                  case measure => simp [intOf]; omega
          · obtain ⟨a1, ha1⟩ : ∃ a1, at1 = a1 + 1 := ⟨at1 - 1, by omega⟩
            obtain ⟨⟨yk, yt⟩, hy⟩ : ∃ y, R[a1]? = some y := ⟨_, List.getElem?_eq_getElem (by have := HRN.out; omega)⟩
            obtain ⟨rg, rfl, hrc, _⟩ := own_at O6.out (by omega)
            obtain ⟨d0, _⟩ := rcl_cells (R := R) (k := a1) (by rw [HRN.out]; exact O6.out) hy
            have HY := Lib.hid hy; have HA1 := Lib.hid ha1
            have x2 : (0 : Int) < (at1 : Int) := by omega
            have x2n : 0 < at1 := by omega
            have x2d : decide (0 < at1) = true := by simpa using x2n
            have x4 : (a1 : Int) < (rn : Int) := by omega
            have x5 : wrap64 ((at1 : Int) - 1) = (a1 : Int) := by unfold wrap64; omega
            have x6 : IntKind.i64.wrap ((at1 : Int) - 1) = (a1 : Int) := by rw [IntWalk.i64_in _ (by omega)]; omega
            clear hy ha1
            by_cases hlt2 : k < yk
            · have GT2 : Hid (∀ y ∈ R.drop a1, k < y.1) := Lib.hid (by
                rw [List.drop_eq_getElem_cons (by have := HRN.out; omega)]
                intro y hy
                rcases List.mem_cons.1 hy with rfl | h9
                · have := (List.getElem?_eq_some_iff.1 HY.out).2
                  rw [this]; exact hlt2
                · have := HA1.out
                  subst this
                  exact GT.out y h9)
              have yy : (wr.drew.cell? ⟨h, 1, none⟩ = some (.slice (some ⟨g, 0, none⟩) n c) ∧ wr.drew.cell? ⟨g, i * 4, none⟩ = some (.int .i64 k)) ∧ wr.drew.cell? ⟨rg, a1 * 2, none⟩ = some (.int .i64 yk) := ⟨⟨c1, c2⟩, d0⟩
              go_wp2_with fail
              go_region_held3 (fun V => (V.cell? ⟨h, 1, none⟩ = some (.slice (some ⟨g, 0, none⟩) n c) ∧ V.cell? ⟨g, i * 4, none⟩ = some (.int .i64 k)) ∧ V.cell? ⟨rg, a1 * 2, none⟩ = some (.int .i64 yk)) (exact yy) (fail)
              go_wp2
              go_roundw
              case rel => exact ⟨a1, by go_num, by omega, GT2.out, KX.out.drew⟩
              case measure => have := HA1.out; simp [intOf]; omega
            · have x7 : ¬ k < yk := hlt2
              have INS : Hid (insR (k, r.txt) R = R.take at1 ++ [(k, r.txt)] ++ R.drop at1) := Lib.hid (insR_at SRT.out (by have := HRN.out; omega) GT.out (fun y hy _ => by
                have h9 := HA1.out
                rw [show at1 - 1 = a1 by omega, HY.out] at hy
                cases hy
                show yk ≤ k
                omega))
              by_cases hc : at1 = rc
              · have HCC := Lib.hid hc
                clear hc
                have yy : (wr.drew.cell? ⟨h, 1, none⟩ = some (.slice (some ⟨g, 0, none⟩) n c) ∧ wr.drew.cell? ⟨g, i * 4, none⟩ = some (.int .i64 k)) ∧ wr.drew.cell? ⟨rg, a1 * 2, none⟩ = some (.int .i64 yk) := ⟨⟨c1, c2⟩, d0⟩
                go_wp2_with fail
                go_region_held3 (fun V => (V.cell? ⟨h, 1, none⟩ = some (.slice (some ⟨g, 0, none⟩) n c) ∧ V.cell? ⟨g, i * 4, none⟩ = some (.int .i64 k)) ∧ V.cell? ⟨rg, a1 * 2, none⟩ = some (.int .i64 yk)) (exact yy) (fail)
                have hcc := HCC.out
                subst hcc
                obtain ⟨wq, hq⟩ : ∃ wq, wq = wr.drew := ⟨_, rfl⟩
                have kq : Kept w5 wq [] := by rw [hq]; exact KX.out.drew
                have O7 := Lib.hid (ownsRow_fr O5.out (Fr.ofKept kq 0 []) (by simp))
                have KQ := Lib.hid kq
                clear c1 c2 c3
                have c1 := kq.cell (p := ⟨h, 1, none⟩) (by simp) HC.out.1
                have c2 := kq.cell (p := ⟨g, i * 4, none⟩) (by simp) HC.out.2.1
                have c3 := kq.cell (p := ⟨g, i * 4 + 1, none⟩) (by simp) HC.out.2.2
                obtain ⟨bq, hbq⟩ : ∃ bq, bq = wq.heap.size := ⟨_, rfl⟩
                have HBQ := Lib.hid hbq
                clear kq hbq
                rw [← hq]
                clear hq
                have SA : Hid (Src Try.prog 2 59 (.slice (some ⟨rg, 0, none⟩) at1 at1) at1 (rcl (R.take at1)) wq) := Lib.hid (by
                  have h9 := src_rows (k := 0) (a := 0) (m := at1) O7.out HRN.out at1 (by omega)
                  rw [List.drop_zero, Nat.zero_mul] at h9
                  exact h9)
                go_wp2_with (at_builtin; refine wpList_append_all _ rfl (.tmp 47) (.tmp 50) 59 59 rfl bq 55 i0 _ 2 24 Try.underlying59 I.out.1 I.out.2.1 I.out.2.2.1 I.out.2.2.2 rfl (.slice none 0 0) 0 [] rfl (World.ownsRow_nil _ _ _ _) _ at1 (rcl (R.take at1)) rfl ?hsrc ?b1 ?b2 ?base ?next)
                case hsrc => exact SA.out
                case b1 => unfold maxLen; omega
                case b2 => omega
                case base => rw [HBQ.out]; exact Nat.le_refl _
                case next =>
                  intro v1 w1 ho1 _ hg1 _
                  obtain ⟨a1', d1', hs1⟩ := ownsRow_shape ho1
                  have k1 : Kept wq w1 [] := kept_grown hg1
                  have KW1 := Lib.hid k1
                  have O1 := Lib.hid (show w1.ownsRow bq 55 2 (.slice a1' at1 d1') at1 (rcl (R.take at1)) by rw [← hs1]; exact ho1)
                  replace c1 := k1.cell (p := ⟨h, 1, none⟩) (by simp) c1
                  replace c2 := k1.cell (p := ⟨g, i * 4, none⟩) (by simp) c2
                  replace c3 := k1.cell (p := ⟨g, i * 4 + 1, none⟩) (by simp) c3
                  clear ho1 hg1 k1
                  subst hs1
                  go_wp2_with (at_builtin; refine wpList_append_all _ rfl (.tmp 52) (.tmp 61) 59 59 rfl bq 55 i0 _ 2 24 Try.underlying59 I.out.1 I.out.2.1 I.out.2.2.1 I.out.2.2.2 rfl (.slice a1' at1 d1') at1 (rcl (R.take at1)) rfl ?hown _ 1 [.int .i64 k, .string r.txt] rfl ?hsrc ?b1 ?b2 ?base ?next)
                  case hown => exact ownsRow_fr O1.out (Fr.ofKept ((Kept.refl w1 []).alloc _) 0 []) (by simp)
                  case hsrc => exact src_row k r.txt rfl rfl
                  case b1 => unfold maxLen; omega
                  case b2 => omega
                  case base => rw [HBQ.out]; exact Nat.le_trans (KW1.out).size ((Kept.refl w1 []).alloc _).size
                  case next =>
                    intro v2 w2 ho2 _ hg2 _
                    obtain ⟨a2, d2, hs2⟩ := ownsRow_shape ho2
                    have hown : ∀ j, (Value.slice a1' at1 d1').ownBlock = some j → wq.heap.size ≤ j := fun j hj => by rw [← HBQ.out]; exact (World.ownsRow.lt O1.out j hj).1
                    have k2 : Kept wq w2 [] := ((KW1.out.alloc _).grown hg2 (fun j hj => .inr (hown j hj)))
                    have KW2 := Lib.hid k2
                    have O2 := Lib.hid (show w2.ownsRow bq 55 2 (.slice a2 (at1 + 1) d2) (at1 + 1) (rcl (R.take at1) ++ [.int .i64 k, .string r.txt]) by rw [← hs2]; exact ho2)
                    clear k2 hown
                    clear ho2 hg2 c1 c2 c3
                    subst hs2
                    go_wp2_with (at_builtin; refine wpList_append_all _ rfl (.tmp 63) (.tmp 66) 59 59 rfl bq 55 i0 _ 2 24 Try.underlying59 I.out.1 I.out.2.1 I.out.2.2.1 I.out.2.2.2 rfl (.slice a2 (at1 + 1) d2) (at1 + 1) (rcl (R.take at1) ++ [.int .i64 k, .string r.txt]) rfl O2.out _ 0 [] rfl ?hsrc ?b1 ?b2 ?base ?next)
                    case hsrc => exact Src.ofSlice _ Try.underlying59 _ 0 _ [] rfl (by simp) (by simp)
                    case b1 => unfold maxLen; omega
                    case b2 => omega
                    case base => rw [HBQ.out]; exact KW2.out.size
                    case next =>
                      intro v3 w3 ho3 _ hg3 _
                      have e9 : rcl (R.take at1) ++ [.int .i64 k, .string r.txt] ++ [] = rcl (insR (k, r.txt) R) := by
                        rw [INS.out, rcl_append, rcl_append]
                        rw [List.drop_of_length_le (by have := HRN.out; omega)]
                        rfl
                      have O3 : Hid (w3.ownsRow bq 55 2 v3 (insR (k, r.txt) R).length (rcl (insR (k, r.txt) R))) := Lib.hid (by
                        have e8 : (insR (k, r.txt) R).length = at1 + 1 + 0 := by rw [insR_length]; have := HRN.out; omega
                        rw [e8, ← e9]
                        first | exact ho3 | simpa using ho3)
                      have K3 := Lib.hid ((KW2.out.grown hg3 (fun j hj => .inr (by have := (World.ownsRow.lt O2.out j hj).1; rw [HBQ.out] at this; exact this))))
                      obtain ⟨a3, d3, hs3⟩ := ownsRow_shape ho3
                      clear ho3 hg3 e9
                      subst hs3
                      go_wp2
                      go_roundw
                      case rel => exact ⟨i + 1, insR (k, r.txt) R, by go_num, by omega, RT.out, by rw [insR_length]; have := HRN.out; omega, fun e => by have := congrArg List.length e; rw [insR_length] at this; simp at this, ownsRow_low O3.out (by rw [HBQ.out]; exact Nat.le_trans K5.out.size KQ.out.size), K5.out.trans (KQ.out.trans K3.out (by simp)) (by simp)⟩
                      case measure => simp [intOf]; omega
              · have x8 : (at1 : Int) ≤ (rc : Int) := by omega
                have x9 : (0 : Int) ≤ (at1 : Int) := by omega
                have x10 : (at1 : Int) ≤ (rn : Int) := by omega
                have x11 : (rn : Int) ≤ (rc : Int) := by omega
                have x12 : ¬ rc = at1 := fun e => hc e.symm
                have yy : (wr.drew.cell? ⟨h, 1, none⟩ = some (.slice (some ⟨g, 0, none⟩) n c) ∧ wr.drew.cell? ⟨g, i * 4, none⟩ = some (.int .i64 k)) ∧ wr.drew.cell? ⟨rg, a1 * 2, none⟩ = some (.int .i64 yk) := ⟨⟨c1, c2⟩, d0⟩
                go_wp2_with fail
                go_region_held3 (fun V => (V.cell? ⟨h, 1, none⟩ = some (.slice (some ⟨g, 0, none⟩) n c) ∧ V.cell? ⟨g, i * 4, none⟩ = some (.int .i64 k)) ∧ V.cell? ⟨rg, a1 * 2, none⟩ = some (.int .i64 yk)) (exact yy) (fail)
                obtain ⟨wq, hq⟩ : ∃ wq, wq = wr.drew := ⟨_, rfl⟩
                have kq : Kept w5 wq [] := by rw [hq]; exact KX.out.drew
                have O7 := Lib.hid (ownsRow_fr O5.out (Fr.ofKept kq 0 []) (by simp))
                have KQ := Lib.hid kq
                clear c1 c2 c3
                have c1 := kq.cell (p := ⟨h, 1, none⟩) (by simp) HC.out.1
                have c2 := kq.cell (p := ⟨g, i * 4, none⟩) (by simp) HC.out.2.1
                have c3 := kq.cell (p := ⟨g, i * 4 + 1, none⟩) (by simp) HC.out.2.2
                obtain ⟨bq, hbq⟩ : ∃ bq, bq = wq.heap.size := ⟨_, rfl⟩
                have HBQ := Lib.hid hbq
                clear kq hbq
                rw [← hq]
                clear hq
                have SA : Hid (Src Try.prog 2 59 (.slice (some ⟨rg, 0, none⟩) at1 rc) at1 (rcl (R.take at1)) wq) := Lib.hid (by
                  have h9 := src_rows (k := 0) (a := 0) (m := at1) O7.out HRN.out rc (by omega)
                  rw [List.drop_zero, Nat.zero_mul] at h9
                  exact h9)
                go_wp2_with (at_builtin; refine wpList_append_all _ rfl (.tmp 47) (.tmp 50) 59 59 rfl bq 55 i0 _ 2 24 Try.underlying59 I.out.1 I.out.2.1 I.out.2.2.1 I.out.2.2.2 rfl (.slice none 0 0) 0 [] rfl (World.ownsRow_nil _ _ _ _) _ at1 (rcl (R.take at1)) rfl ?hsrc ?b1 ?b2 ?base ?next)
                case hsrc => exact SA.out
                case b1 => unfold maxLen; omega
                case b2 => omega
                case base => rw [HBQ.out]; exact Nat.le_refl _
                case next =>
                  intro v1 w1 ho1 _ hg1 _
                  obtain ⟨a1', d1', hs1⟩ := ownsRow_shape ho1
                  have k1 : Kept wq w1 [] := kept_grown hg1
                  have KW1 := Lib.hid k1
                  have O1 := Lib.hid (show w1.ownsRow bq 55 2 (.slice a1' at1 d1') at1 (rcl (R.take at1)) by rw [← hs1]; exact ho1)
                  replace c1 := k1.cell (p := ⟨h, 1, none⟩) (by simp) c1
                  replace c2 := k1.cell (p := ⟨g, i * 4, none⟩) (by simp) c2
                  replace c3 := k1.cell (p := ⟨g, i * 4 + 1, none⟩) (by simp) c3
                  clear ho1 hg1 k1
                  subst hs1
                  go_wp2_with (at_builtin; refine wpList_append_all _ rfl (.tmp 52) (.tmp 61) 59 59 rfl bq 55 i0 _ 2 24 Try.underlying59 I.out.1 I.out.2.1 I.out.2.2.1 I.out.2.2.2 rfl (.slice a1' at1 d1') at1 (rcl (R.take at1)) rfl ?hown _ 1 [.int .i64 k, .string r.txt] rfl ?hsrc ?b1 ?b2 ?base ?next)
                  case hown => exact ownsRow_fr O1.out (Fr.ofKept ((Kept.refl w1 []).alloc _) 0 []) (by simp)
                  case hsrc => exact src_row k r.txt rfl rfl
                  case b1 => unfold maxLen; omega
                  case b2 => omega
                  case base => rw [HBQ.out]; exact Nat.le_trans (KW1.out).size ((Kept.refl w1 []).alloc _).size
                  case next =>
                    intro v2 w2 ho2 _ hg2 _
                    obtain ⟨a2, d2, hs2⟩ := ownsRow_shape ho2
                    have hown : ∀ j, (Value.slice a1' at1 d1').ownBlock = some j → wq.heap.size ≤ j := fun j hj => by rw [← HBQ.out]; exact (World.ownsRow.lt O1.out j hj).1
                    have k2 : Kept wq w2 [] := ((KW1.out.alloc _).grown hg2 (fun j hj => .inr (hown j hj)))
                    have KW2 := Lib.hid k2
                    have O2 := Lib.hid (show w2.ownsRow bq 55 2 (.slice a2 (at1 + 1) d2) (at1 + 1) (rcl (R.take at1) ++ [.int .i64 k, .string r.txt]) by rw [← hs2]; exact ho2)
                    have O8 := Lib.hid (ownsRow_fr O7.out (Fr.ofKept k2 0 []) (by simp))
                    clear k2 hown
                    clear ho2 hg2 c1 c2 c3
                    subst hs2
                    have SR := Lib.hid (src_rows (k := 0) (a := at1) (m := rn - at1) O8.out HRN.out (rc - at1) (by omega))
                    go_wp2_with (at_builtin; refine wpList_append_all _ rfl (.tmp 63) (.tmp 66) 59 59 rfl bq 55 i0 _ 2 24 Try.underlying59 I.out.1 I.out.2.1 I.out.2.2.1 I.out.2.2.2 rfl (.slice a2 (at1 + 1) d2) (at1 + 1) (rcl (R.take at1) ++ [.int .i64 k, .string r.txt]) rfl O2.out _ (rn - at1) (rcl ((R.drop at1).take (rn - at1))) rfl ?hsrc ?b1 ?b2 ?base ?next)
                    case hsrc => exact SR.out
                    case b1 => unfold maxLen; omega
                    case b2 => omega
                    case base => rw [HBQ.out]; exact KW2.out.size
                    case next =>
                      intro v3 w3 ho3 _ hg3 _
                      have e9 : rcl (R.take at1) ++ [.int .i64 k, .string r.txt] ++ rcl ((R.drop at1).take (rn - at1)) = rcl (insR (k, r.txt) R) := by
                        rw [INS.out, rcl_append, rcl_append]
                        have := HRN.out
                        rw [List.take_of_length_le (l := R.drop at1) (by rw [List.length_drop]; omega)]
                        rfl
                      have O3 : Hid (w3.ownsRow bq 55 2 v3 (insR (k, r.txt) R).length (rcl (insR (k, r.txt) R))) := Lib.hid (by
                        have e8 : (insR (k, r.txt) R).length = at1 + 1 + (rn - at1) := by rw [insR_length]; have := HRN.out; omega
                        rw [e8, ← e9]
                        first | exact ho3 | simpa using ho3)
                      have K3 := Lib.hid ((KW2.out.grown hg3 (fun j hj => .inr (by have := (World.ownsRow.lt O2.out j hj).1; rw [HBQ.out] at this; exact this))))
                      obtain ⟨a3, d3, hs3⟩ := ownsRow_shape ho3
                      clear ho3 hg3 e9
                      subst hs3
                      go_wp2
                      go_roundw
                      case rel => exact ⟨i + 1, insR (k, r.txt) R, by go_num, by omega, RT.out, by rw [insR_length]; have := HRN.out; omega, fun e => by have := congrArg List.length e; rw [insR_length] at this; simp at this, ownsRow_low O3.out (by rw [HBQ.out]; exact Nat.le_trans K5.out.size KQ.out.size), K5.out.trans (KQ.out.trans K3.out (by simp)) (by simp)⟩
                      case measure => simp [intOf]; omega
    · have x1 : ¬ (i : Int) < (n : Int) := by omega
      have E : Hid (flScan P l = R) := Lib.hid (by have h9 := HR.out; rw [List.take_of_length_le (by have := HN.out; omega)] at h9; exact h9)
      go_wp2
      go_ret
      rw [E.out, HRN.out]
      exact ⟨_, rfl, ownsRow_low O.out K1.out.size, K1.out.trans K.out (by simp)⟩
end Go.Proofs.Ytdjhcdgehmpikaa

namespace Go.Proofs.Ytdjhcdgehmpikaa
set_option linter.unusedVariables false
open Go.RowKit Go.Maps

variable {w w' : World} {B q h : Nat} {v lv : Value} {st : List Nat} {l : Fl}

/-- Truncate's rows, of the one list. -/
def flTruR (st : List Nat) (V : Vw) (l : Fl) : List (Int × ByteArray) := if flTruE st V l = 0 then flScan (sees st V) l else []

/-- One Delete for each of so many rows. -/
def dels (st : List Nat) (V : Vw) (R : List (Int × ByteArray)) (l : Fl) : Fl := R.foldl (fun l y => (flDel st V y.1 l).2) l
theorem dels_take {st : List Nat} {V : Vw} {R : List (Int × ByteArray)} {l : Fl} {j : Nat} {y : Int × ByteArray} (h : R[j]? = some y) : dels st V (R.take (j + 1)) l = (flDel st V y.1 (dels st V (R.take j) l)).2 := by
  rw [List.take_add_one, h]
  simp [dels, List.foldl_append]
theorem flDel_length (st : List Nat) (V : Vw) (k : Int) (l : Fl) : (flDel st V k l).2.length = l.length := by
  unfold flDel
  split
  · split
    · rfl
    · split
      · rfl
      · split
        · rfl
        · exact flDie_length _ _ _
  · rfl

set_option maxHeartbeats 4000000 in
set_option maxRecDepth 100000 in
theorem rtru_any (m : Rm w B q v st) (a : Rhe w B q h lv l) (mx own : Int) (sl : Value) (opl : List Int) (hsl : Vo w sl opl) (hl : l.length ≤ 1000) :
    Calls Try.prog 47 #[.pointer (some ⟨h, 0, none⟩), .agg #[.int .i64 mx, sl, .int .i64 own]] w fun e w' => ∃ v', e = .returned (.tuple #[v', .int .i64 (flTruE st ⟨mx, opl, own⟩ l)]) ∧ w'.ownsRow w.heap.size 55 2 v' (flTruR st ⟨mx, opl, own⟩ l).length (rcl (flTruR st ⟨mx, opl, own⟩ l)) ∧
      Rhe w' B q h lv (flTru st ⟨mx, opl, own⟩ l) ∧ Fo (rfoot h lv) w w' := by
  obtain ⟨W1, hW1⟩ : ∃ W1, W1 = w.alloc (.cells #[.int .i64 mx, sl, .int .i64 own] 50) := ⟨_, rfl⟩
  have k1 : Kept w W1 [] := by rw [hW1]; exact (Kept.refl w []).alloc _
  obtain ⟨z, hz⟩ : ∃ z, z = w.heap.size := ⟨_, rfl⟩
  have g1 : Bw W1 z mx own sl := by rw [hW1, hz]; exact heap_alloc_new w _
  have G1 := Lib.hid g1; have K1 := Lib.hid k1
  have M := Lib.hid (m.keep k1); have A := Lib.hid (a.keep k1); have HS := Lib.hid (hsl.keep k1)
  obtain ⟨s, hs⟩ : ∃ s, stAt st own = s := ⟨_, rfl⟩
  have CS : Hid (∀ k, Calls Try.prog 37 #[.pointer (some ⟨q, 0, none⟩), .int .i64 own] (W1.drewN k) fun e w' => e = .returned (.int .u8 s) ∧ w' = W1.drewN k) := Lib.hid (fun k => by
    rw [← hs]; exact (rstate_any (M.out.keep ((Kept.refl _ []).drewN k)) own).mono fun _ _ h => ⟨h.1, h.2.symm⟩)
  obtain ⟨sa, sc, hsv⟩ := ownsRow_shape hsl
  subst hsv
  have CN : Hid (∀ V (j : Nat) k r, Kept W1 V [] → l[j]? = some (k, r) → Calls Try.prog 65 #[.pointer (some ⟨h, 0, none⟩), .agg #[.int .i64 mx, .slice sa opl.length sc, .int .i64 own], .int .i64 j] V fun e w' => e = .returned (.bool (sees st ⟨mx, opl, own⟩ r)) ∧ Kept W1 w' []) := Lib.hid (fun V j k r hV hr =>
    (rsees_h (M.out.keep hV) (A.out.keep hV) mx own _ opl (HS.out.keep hV).rd hr).mono (fun _ _ h => ⟨h.1, hV.trans h.2 (by simp)⟩))
  have CT : Hid (∀ V x, Kept W1 V [] → Calls Try.prog 64 #[.pointer (some ⟨h, 0, none⟩), .agg #[.int .i64 mx, .slice sa opl.length sc, .int .i64 own], .int .i64 x] V fun e w' => e = .returned (.bool (binds st ⟨mx, opl, own⟩ x)) ∧ Kept W1 w' []) := Lib.hid (fun V x hV =>
    (rtaken_any (M.out.keep hV) (A.out.keep hV) mx own _ opl x).mono (fun _ _ h => ⟨h.1, hV.trans h.2 (by simp)⟩))
  obtain ⟨z0, z1, z2⟩ := g1.cells
  have c0 := A.out.cell.1
  have still : ∀ V, Kept W1 V [] → ∀ E, flTruE st ⟨mx, opl, own⟩ l = E → E ≠ 0 → V.ownsRow w.heap.size 55 2 (.slice none 0 0) (flTruR st ⟨mx, opl, own⟩ l).length (rcl (flTruR st ⟨mx, opl, own⟩ l)) ∧ Rhe V B q h lv (flTru st ⟨mx, opl, own⟩ l) ∧ Fo (rfoot h lv) w V := fun V hV E e hE => by
    have e0 : ¬ flTruE st ⟨mx, opl, own⟩ l = 0 := by rw [e]; exact hE
    rw [flTruR, if_neg e0, flTru, if_neg e0]
    exact ⟨World.ownsRow_nil _ _ _ _, A.out.keep hV, Fo.ofKept (K1.out.trans hV (by simp)) _⟩
  have STILL := Lib.hid still
  clear m a k1 g1 hsl still
  by_cases h1 : s = 1
  · have ho : stAt st (⟨mx, opl, own⟩ : Vw).own = 1 := by rw [← h1]; exact hs
    subst h1
    have E6 : Hid (∀ j (x : Int × Vr), l[j]? = some x → sees st ⟨mx, opl, own⟩ x.2 = true → binds st ⟨mx, opl, own⟩ x.2.death = true → flTruE st ⟨mx, opl, own⟩ l = 6) := Lib.hid (fun j x hx h1 h2 => by
      rw [flTruE, if_pos ho, if_pos (List.any_eq_true.2 ⟨x, List.mem_of_getElem? hx, by simp [h1, h2]⟩)])
    have E0 : Hid ((∀ j (x : Int × Vr), j < l.length → l[j]? = some x → (sees st ⟨mx, opl, own⟩ x.2 && binds st ⟨mx, opl, own⟩ x.2.death) = false) → flTruE st ⟨mx, opl, own⟩ l = 0) := Lib.hid (fun h => by
      rw [flTruE, if_pos ho, if_neg]
      intro h2
      obtain ⟨x, hx, hx2⟩ := List.any_eq_true.1 h2
      obtain ⟨j, hj⟩ := List.getElem?_of_mem hx
      rw [h j x (List.getElem?_eq_some_iff.1 hj).1 hj] at hx2
      cases hx2)
    obtain ⟨u, c, hlv, hlen, hsh⟩ := A.out.shape
    obtain ⟨n, hn⟩ : ∃ n, l.length = n := ⟨_, rfl⟩
    have HN := Lib.hid hn; have HSH := Lib.hid hsh; have LV := Lib.hid hlv
    rw [hn] at hl hlen LV
    have CS1 : Hid (∀ k, Calls Try.prog 37 #[.pointer (some ⟨q, 0, none⟩), .int .i64 own] (W1.drewN k) fun e w' => e = .returned (.int .u8 1) ∧ w' = W1.drewN k) := Lib.hid (fun k => CS.out k)
    clear ho hs hsh hlv CS
    go_enter Try.func47, Try.ntmps47
    go_wp2_with fail
    rw [← hW1, ← hz]
    clear hW1 hz
    go_quiet ((go_at_call 37; exact Calls.quiet_of_same (CS1.out _)))
    clear z0 z1 z2 c0 hn
    go_wp2_with fail
    go_loopw [6] (fun t wr => ∃ j : Nat, t = .int .i64 j ∧ j ≤ n ∧ (∀ i (x : Int × Vr), i < j → l[i]? = some x → (sees st ⟨mx, opl, own⟩ x.2 && binds st ⟨mx, opl, own⟩ x.2.death) = false) ∧ Kept W1 wr []) (fun t _ => n - (intOf t).toNat)
    case atStart => exact ⟨0, rfl, Nat.zero_le _, fun i x h => by omega, (Kept.refl W1 []).drewN _⟩
    case round =>
      obtain ⟨j, rfl, hj, hb, hkw⟩ := hrel
      have HB := Lib.hid hb; have KX := Lib.hid hkw
      have c1 := (A.out.keep hkw).cell.2
      rw [LV.out] at c1
      clear hb hkw
      by_cases hlt : j < n
      · obtain ⟨⟨k, r⟩, hr⟩ : ∃ x, l[j]? = some x := ⟨_, List.getElem?_eq_getElem (by have := HN.out; omega)⟩
        obtain ⟨g, rfl, hnc, _, hcell⟩ := HSH.out (by have := HN.out; omega)
        obtain ⟨_, _, d2, d3⟩ := hcell j k r hr
        have HR := Lib.hid hr
        obtain ⟨rt, rb, rd⟩ := r
        simp only at d2 d3
        obtain ⟨v0, v1, v2⟩ := G1.out.cells
        have ff : SeesS W1 g h z (j * 4) mx own (.slice sa opl.length sc) (.slice (some ⟨g, 0, none⟩) n c) rb rd := ⟨⟨⟨⟨⟨v0, v1⟩, v2⟩, by have := A.out.cell.2; rw [LV.out] at this; exact this⟩, d2⟩, d3⟩
        have FF : Hid (∀ V, Kept W1 V [] → SeesS V g h z (j * 4) mx own (.slice sa opl.length sc) (.slice (some ⟨g, 0, none⟩) n c) rb rd) := Lib.hid (fun V hV => ff.keep hV)
        have x1 : (j : Int) < (n : Int) := by omega
        have x0 : (0 : Int) ≤ (j : Int) := by omega
        obtain ⟨y, hy⟩ : ∃ y, sees st ⟨mx, opl, own⟩ ⟨rt, rb, rd⟩ = y := ⟨_, rfl⟩
        obtain ⟨b, hbb⟩ : ∃ b, binds st ⟨mx, opl, own⟩ rd = b := ⟨_, rfl⟩
        have CNN : Hid (∀ V, Kept W1 V [] → Calls Try.prog 65 #[.pointer (some ⟨h, 0, none⟩), .agg #[.int .i64 mx, .slice sa opl.length sc, .int .i64 own], .int .i64 j] V fun e w' => e = .returned (.bool y) ∧ Kept W1 w' []) := Lib.hid (fun V hV => by rw [← hy]; exact CN.out V j k _ hV HR.out)
        have CTT : Hid (∀ V, Kept W1 V [] → Calls Try.prog 64 #[.pointer (some ⟨h, 0, none⟩), .agg #[.int .i64 mx, .slice sa opl.length sc, .int .i64 own], .int .i64 rd] V fun e w' => e = .returned (.bool b) ∧ Kept W1 w' []) := Lib.hid (fun V hV => by rw [← hbb]; exact CT.out V rd hV)
        have YB : Hid (sees st ⟨mx, opl, own⟩ ⟨rt, rb, rd⟩ = y ∧ binds st ⟨mx, opl, own⟩ rd = b) := Lib.hid ⟨hy, hbb⟩
        have step : (y && b) = false → ∀ i (x : Int × Vr), i < j + 1 → l[i]? = some x → (sees st ⟨mx, opl, own⟩ x.2 && binds st ⟨mx, opl, own⟩ x.2.death) = false := fun hf i x hi hx => by
          by_cases e : i = j
          · subst e
            have h9 := HR.out
            rw [hx] at h9
            cases h9
            show (sees st ⟨mx, opl, own⟩ ⟨rt, rb, rd⟩ && binds st ⟨mx, opl, own⟩ rd) = false
            rw [YB.out.1, YB.out.2]; exact hf
          · exact HB.out i x (by omega) hx
        have STEP := Lib.hid step
        clear hnc hcell hr d2 d3 v0 v1 v2 ff hy hbb step
        cases y
        · go_wp2_with fail
          refine wp_region_held_drew (S := fun V => SeesS V g h z (j * 4) mx own (.slice sa opl.length sc) (.slice (some ⟨g, 0, none⟩) n c) rb rd) (by kernel_rfl) (FF.out _ KX.out.drew) (fun hHeld => ?_)
          refine wpAnyH_take (i := 0) (oi := _) (v := .pointer (some ⟨h, 0, none⟩)) rfl (by kernel_rfl) (by kernel_rfl) (by kernel_rfl) (fun _ _ _ h => h) (Or.inl ⟨by rfl, fun V hV => by go_simp⟩) hHeld ?_
          change wpAnyH _ _ _ _ _ _ _ (Act.put _ (some 26) _) _
          simp only [Act.put, List.setIfInBounds_toArray, List.set_cons_zero, List.set_cons_succ]
          refine wpAnyH_take (i := 1) (oi := _) (v := .agg #[.int .i64 mx, .slice sa opl.length sc, .int .i64 own]) rfl (by kernel_rfl) (by kernel_rfl) (by kernel_rfl) (fun _ _ _ h => h) (Or.inl ⟨by rfl, fun V hV => by (obtain ⟨⟨⟨⟨⟨e0, e1⟩, e2⟩, e3⟩, e4⟩, e5⟩ := hV; go_simp)⟩) hHeld ?_
          change wpAnyH _ _ _ _ _ _ _ (Act.put _ (some 27) _) _
          simp only [Act.put, List.setIfInBounds_toArray, List.set_cons_zero, List.set_cons_succ]
          refine wpAnyH_take (i := 2) (oi := _) (v := .int .i64 j) rfl (by kernel_rfl) (by kernel_rfl) (by kernel_rfl) (fun _ _ _ h => h) (Or.inl ⟨by rfl, fun V hV => by go_simp⟩) hHeld ?_
          change wpAnyH _ _ _ _ _ _ _ (Act.put _ (some 28) _) _
          simp only [Act.put, List.setIfInBounds_toArray, List.set_cons_zero, List.set_cons_succ]
          refine wpAnyH_ready (rs := [3]) (by kernel_rfl) (by simp) ?_
          refine AllReadyH.cons (o := _) rfl (fun K hK => ?_) AllReadyH.nil
          go_simp
          go_at_call 65
          refine (CNN.out _ ?_).mono ?_
          exact KX.out.drew
          rintro e w8 ⟨rfl, k8⟩
          have K8 := Lib.hid k8
          clear k8
          go_wp2_with fail
          refine hK.out _ _ (FF.out _ K8.out) (fun hHeld => ?_)
          clear hK K
          refine wpAnyH_take (i := 4) (oi := _) (v := .bool false) rfl (by kernel_rfl) (by kernel_rfl) (by kernel_rfl) (fun _ _ _ h => h) (Or.inl ⟨by rfl, fun V hV => by go_simp⟩) hHeld ?_
          change wpAnyH _ _ _ _ _ _ _ (Act.put _ (some 30) _) _
          simp only [Act.put, List.setIfInBounds_toArray, List.set_cons_zero, List.set_cons_succ]
          refine wpAnyH_take (i := 5) (oi := _) (v := undef) rfl (by kernel_rfl) (by kernel_rfl) (by kernel_rfl) (fun _ _ _ h => h) (Or.inr ⟨by rfl, rfl⟩) hHeld ?_
          change wpAnyH _ _ _ _ _ _ _ (Act.put _ (some 31) _) _
          simp only [Act.put, List.setIfInBounds_toArray, List.set_cons_zero, List.set_cons_succ]
          refine wpAnyH_take (i := 6) (oi := _) (v := undef) rfl (by kernel_rfl) (by kernel_rfl) (by kernel_rfl) (fun _ _ _ h => h) (Or.inr ⟨by rfl, rfl⟩) hHeld ?_
          change wpAnyH _ _ _ _ _ _ _ (Act.put _ (some 32) _) _
          simp only [Act.put, List.setIfInBounds_toArray, List.set_cons_zero, List.set_cons_succ]
          refine wpAnyH_take (i := 7) (oi := _) (v := undef) rfl (by kernel_rfl) (by kernel_rfl) (by kernel_rfl) (fun _ _ _ h => h) (Or.inr ⟨by rfl, rfl⟩) hHeld ?_
          change wpAnyH _ _ _ _ _ _ _ (Act.put _ (some 33) _) _
          simp only [Act.put, List.setIfInBounds_toArray, List.set_cons_zero, List.set_cons_succ]
          refine wpAnyH_take (i := 8) (oi := _) (v := undef) rfl (by kernel_rfl) (by kernel_rfl) (by kernel_rfl) (fun _ _ _ h => h) (Or.inr ⟨by rfl, rfl⟩) hHeld ?_
          change wpAnyH _ _ _ _ _ _ _ (Act.put _ (some 34) _) _
          simp only [Act.put, List.setIfInBounds_toArray, List.set_cons_zero, List.set_cons_succ]
          refine wpAnyH_take (i := 9) (oi := _) (v := undef) rfl (by kernel_rfl) (by kernel_rfl) (by kernel_rfl) (fun _ _ _ h => h) (Or.inr ⟨by rfl, rfl⟩) hHeld ?_
          change wpAnyH _ _ _ _ _ _ _ (Act.put _ (some 35) _) _
          simp only [Act.put, List.setIfInBounds_toArray, List.set_cons_zero, List.set_cons_succ]
          refine wpAnyH_take (i := 10) (oi := _) (v := undef) rfl (by kernel_rfl) (by kernel_rfl) (by kernel_rfl) (fun _ _ _ h => h) (Or.inr ⟨by rfl, rfl⟩) hHeld ?_
          change wpAnyH _ _ _ _ _ _ _ (Act.put _ (some 36) _) _
          simp only [Act.put, List.setIfInBounds_toArray, List.set_cons_zero, List.set_cons_succ]
          refine wpAnyH_take (i := 11) (oi := _) (v := undef) rfl (by kernel_rfl) (by kernel_rfl) (by kernel_rfl) (fun _ _ _ h => h) (Or.inr ⟨by rfl, rfl⟩) hHeld ?_
          change wpAnyH _ _ _ _ _ _ _ (Act.put _ (some 37) _) _
          simp only [Act.put, List.setIfInBounds_toArray, List.set_cons_zero, List.set_cons_succ]
          refine wpAnyH_take (i := 12) (oi := _) (v := undef) rfl (by kernel_rfl) (by kernel_rfl) (by kernel_rfl) (fun _ _ _ h => h) (Or.inr ⟨by rfl, rfl⟩) hHeld ?_
          change wpAnyH _ _ _ _ _ _ _ (Act.put _ (some 38) _) _
          simp only [Act.put, List.setIfInBounds_toArray, List.set_cons_zero, List.set_cons_succ]
          refine wpAnyH_take (i := 13) (oi := _) (v := undef) rfl (by kernel_rfl) (by kernel_rfl) (by kernel_rfl) (fun _ _ _ h => h) (Or.inr ⟨by rfl, rfl⟩) hHeld ?_
          change wpAnyH _ _ _ _ _ _ _ (Act.put _ (some 39) _) _
          simp only [Act.put, List.setIfInBounds_toArray, List.set_cons_zero, List.set_cons_succ]
          refine wpAnyH_take (i := 14) (oi := _) (v := undef) rfl (by kernel_rfl) (by kernel_rfl) (by kernel_rfl) (fun _ _ _ h => h) (Or.inr ⟨by rfl, rfl⟩) hHeld ?_
          change wpAnyH _ _ _ _ _ _ _ (Act.put _ (some 40) _) _
          simp only [Act.put, List.setIfInBounds_toArray, List.set_cons_zero, List.set_cons_succ]
          refine wpAnyH_take (i := 15) (oi := _) (v := undef) rfl (by kernel_rfl) (by kernel_rfl) (by kernel_rfl) (fun _ _ _ h => h) (Or.inr ⟨by rfl, rfl⟩) hHeld ?_
          change wpAnyH _ _ _ _ _ _ _ (Act.put _ (some 41) _) _
          simp only [Act.put, List.setIfInBounds_toArray, List.set_cons_zero, List.set_cons_succ]
          refine wpAnyH_take (i := 16) (oi := _) (v := .bool false) rfl (by kernel_rfl) (by kernel_rfl) (by kernel_rfl) (fun _ _ _ h => h) (Or.inl ⟨by rfl, fun V hV => by go_simp⟩) hHeld ?_
          change wpAnyH _ _ _ _ _ _ _ (Act.put _ (some 42) _) _
          simp only [Act.put, List.setIfInBounds_toArray, List.set_cons_zero, List.set_cons_succ]
          refine wpAnyH_done (by kernel_rfl) ?_ _
          clear c1
          go_wp2
          go_roundw
          case rel => exact ⟨j + 1, by go_num, by omega, STEP.out rfl, K8.out⟩
          case measure => simp [intOf]; omega
        · have yy := FF.out _ (KX.out.drew)
          unfold SeesS at yy
          have k8 := KX.out.drew
          cases b
          · go_wp2_with fail
            go_region_held3 (fun V => ((((V.cell? ⟨z, 0, none⟩ = some (.int .i64 mx) ∧ V.cell? ⟨z, 1, none⟩ = some (.slice sa opl.length sc)) ∧ V.cell? ⟨z, 2, none⟩ = some (.int .i64 own)) ∧ V.cell? ⟨h, 1, none⟩ = some (.slice (some ⟨g, 0, none⟩) n c)) ∧ V.cell? ⟨g, j * 4 + 2, none⟩ = some (.int .i64 rb)) ∧ V.cell? ⟨g, j * 4 + 3, none⟩ = some (.int .i64 rd)) (exact yy)
              (first
                | (go_at_call 65; refine (CNN.out _ ?_).mono ?_; exact k8; rintro e w8 ⟨rfl, k8⟩; have yy := FF.out _ k8; unfold SeesS at yy)
                | (go_at_call 64; refine (CTT.out _ ?_).mono ?_; exact k8; rintro e w8 ⟨rfl, k8⟩; have yy := FF.out _ k8; unfold SeesS at yy))
            have K8 := Lib.hid k8
            clear k8 yy c1
            go_wp2
            go_roundw
            case rel => exact ⟨j + 1, by go_num, by omega, STEP.out rfl, K8.out⟩
            case measure => simp [intOf]; omega
          · go_wp2_with fail
            go_region_held3 (fun V => ((((V.cell? ⟨z, 0, none⟩ = some (.int .i64 mx) ∧ V.cell? ⟨z, 1, none⟩ = some (.slice sa opl.length sc)) ∧ V.cell? ⟨z, 2, none⟩ = some (.int .i64 own)) ∧ V.cell? ⟨h, 1, none⟩ = some (.slice (some ⟨g, 0, none⟩) n c)) ∧ V.cell? ⟨g, j * 4 + 2, none⟩ = some (.int .i64 rb)) ∧ V.cell? ⟨g, j * 4 + 3, none⟩ = some (.int .i64 rd)) (exact yy)
              (first
                | (go_at_call 65; refine (CNN.out _ ?_).mono ?_; exact k8; rintro e w8 ⟨rfl, k8⟩; have yy := FF.out _ k8; unfold SeesS at yy)
                | (go_at_call 64; refine (CTT.out _ ?_).mono ?_; exact k8; rintro e w8 ⟨rfl, k8⟩; have yy := FF.out _ k8; unfold SeesS at yy))
            have K8 := Lib.hid k8
            clear k8 yy c1
            have EE : Hid (flTruE st ⟨mx, opl, own⟩ l = 6) := Lib.hid (E6.out j _ HR.out YB.out.1 YB.out.2)
            go_wp2
            go_ret2
            rw [EE.out]
            exact ⟨_, rfl, STILL.out _ K8.out 6 EE.out (by decide)⟩
      · have x1 : ¬ (j : Int) < (n : Int) := by omega
        have EE : Hid (flTruE st ⟨mx, opl, own⟩ l = 0) := Lib.hid (E0.out (fun i x hi hx => HB.out i x (by have := HN.out; omega) hx))
        obtain ⟨R, hR⟩ : ∃ R, flScan (sees st ⟨mx, opl, own⟩) l = R := ⟨_, rfl⟩
        have HRR := Lib.hid hR
        have CC := rscan_any (M.out.keep KX.out) (A.out.keep KX.out) mx own (.slice sa opl.length sc) opl (HS.out.keep KX.out).rd (by rw [HN.out]; exact hl)
        rw [hR] at CC
        have CSC := Lib.hid CC
        obtain ⟨z0, z1, z2⟩ := (G1.out.keep KX.out).cells
        clear CC hR
        go_wp2_with fail
        refine CSC.out.mono ?_
        rintro e w5 ⟨v5, rfl, ho5, k5⟩
        obtain ⟨a5, d5, hs5⟩ := ownsRow_shape ho5
        have O5 := Lib.hid (ownsRow_low ho5 (Nat.zero_le _)); have OW := Lib.hid (ownsRow_low ho5 (Nat.le_trans K1.out.size KX.out.size)); have K5 := Lib.hid (KX.out.trans k5 (by simp))
        obtain ⟨rn, hrn⟩ : ∃ rn, R.length = rn := ⟨_, rfl⟩
        have HRN := Lib.hid hrn
        have hrn9 : rn ≤ 9223372036854775807 := by
          rw [← hrn]
          have := O5.out
          rw [hs5] at this
          rcases own_head this with h | h <;> omega
        rw [hs5] at O5 OW
        rw [hrn] at O5 OW hs5
        clear ho5 k5 z0 z1 z2 c1 hrn
        subst hs5
        go_wp2
        go_loopw [8] (fun t wx => ∃ i : Nat, t = .int .i64 i ∧ i ≤ rn ∧ Rhe wx B q h lv (dels st ⟨mx, opl, own⟩ (R.take i) l) ∧ Rm wx B q v st ∧ Bw wx z mx own (.slice sa opl.length sc) ∧ Vo wx (.slice sa opl.length sc) opl ∧ wx.ownsRow w.heap.size 55 2 (.slice a5 rn d5) rn (rcl R) ∧ Fo (rfoot h lv) W1 wx) (fun t _ => rn - (intOf t).toNat)
        case atStart => exact ⟨0, rfl, Nat.zero_le _, A.out.keep K5.out, M.out.keep K5.out, G1.out.keep K5.out, HS.out.keep K5.out, OW.out, Fo.ofKept K5.out _⟩
        case round =>
          obtain ⟨i, rfl, hi, ra, rm, rb, rv, rw1, rf⟩ := hrel
          have RA := Lib.hid ra; have RM := Lib.hid rm; have RB := Lib.hid rb; have RV := Lib.hid rv; have RW := Lib.hid rw1; have RF := Lib.hid rf
          clear ra rm rb rv rw1 rf
          by_cases hli : i < rn
          · obtain ⟨⟨yk, yt⟩, hy⟩ : ∃ y, R[i]? = some y := ⟨_, List.getElem?_eq_getElem (by have := HRN.out; omega)⟩
            obtain ⟨rg, rfl, hrc, _⟩ := own_at RW.out (by omega)
            obtain ⟨y0, _⟩ := rcl_cells (R := R) (k := i) (by rw [HRN.out]; exact RW.out) hy
            obtain ⟨z0, z1, z2⟩ := RB.out.cells
            have x2 : (i : Int) < (rn : Int) := by omega
            have DT : Hid (dels st ⟨mx, opl, own⟩ (R.take (i + 1)) l = (flDel st ⟨mx, opl, own⟩ yk (dels st ⟨mx, opl, own⟩ (R.take i) l)).2) := Lib.hid (dels_take hy)
            have CD : Hid (∀ V, Kept wr V [] → Calls Try.prog 46 #[.pointer (some ⟨h, 0, none⟩), .agg #[.int .i64 mx, .slice sa opl.length sc, .int .i64 own], .int .i64 yk] V fun e w' => ∃ E, e = .returned (.int .i64 E) ∧ Rhe w' B q h lv (dels st ⟨mx, opl, own⟩ (R.take (i + 1)) l) ∧ Fo (rfoot h lv) V w') := Lib.hid (fun V hV => by
              rw [DT.out]
              exact (rdel_any (RM.out.keep hV) (RA.out.keep hV) mx own _ opl (RV.out.keep hV).rd yk).mono (by rintro e w' ⟨rfl, h1, h2⟩; exact ⟨_, rfl, h1, h2⟩))
            have YS : Hid (∀ V, Bw V z mx own (.slice sa opl.length sc) → V.ownsRow w.heap.size 55 2 (.slice (some ⟨rg, 0, none⟩) rn d5) rn (rcl R) → ((V.cell? ⟨z, 0, none⟩ = some (.int .i64 mx) ∧ V.cell? ⟨z, 1, none⟩ = some (.slice sa opl.length sc)) ∧ V.cell? ⟨z, 2, none⟩ = some (.int .i64 own)) ∧ V.cell? ⟨rg, i * 2, none⟩ = some (.int .i64 yk)) := Lib.hid (fun V hB hO =>
              ⟨⟨⟨hB.cells.1, hB.cells.2.1⟩, hB.cells.2.2⟩, (rcl_cells (R := R) (k := i) (by rw [HRN.out]; exact hO) hy).1⟩)
            have k8 : Kept wr wr.drew [] := (Kept.refl wr []).drew
            have yy := YS.out _ (RB.out.keep k8) (ownsRow_fr RW.out (Fr.ofKept k8 0 []) (by simp))
            clear hy y0 z0 z1 z2
            go_wp2_with fail
            go_region_held3 (fun V => ((V.cell? ⟨z, 0, none⟩ = some (.int .i64 mx) ∧ V.cell? ⟨z, 1, none⟩ = some (.slice sa opl.length sc)) ∧ V.cell? ⟨z, 2, none⟩ = some (.int .i64 own)) ∧ V.cell? ⟨rg, i * 2, none⟩ = some (.int .i64 yk)) (exact yy)
              (first
                | (go_at_call 46; refine (CD.out _ ?_).mono ?_; exact k8; rintro e w8 ⟨E, rfl, a8, f8⟩; have A8 := Lib.hid a8; have M8 := Lib.hid ((RA.out.keep k8).man f8 (RM.out.keep k8)); have B8 := Lib.hid ((RA.out.keep k8).heap f8 (RB.out.keep k8) (by decide)); have V8 := Lib.hid ((RA.out.keep k8).vo f8 (RV.out.keep k8)); have O8 := Lib.hid ((RA.out.keep k8).row f8 (ownsRow_fr RW.out (Fr.ofKept k8 0 []) (by simp)) (by decide)); have F8 := Lib.hid ((RF.out.trans (Fo.ofKept k8 _)).trans f8); have yy := YS.out _ B8.out O8.out))
            clear a8 f8 yy k8
            go_wp2
            go_roundw
            case rel => exact ⟨i + 1, by go_num, by omega, A8.out, M8.out, B8.out, V8.out, O8.out, F8.out⟩
            case measure => simp [intOf]; omega
          · have x2 : ¬ (i : Int) < (rn : Int) := by omega
            have RT : Hid (R.take i = R) := Lib.hid (List.take_of_length_le (by have := HRN.out; omega))
            go_wp2
            go_ret2
            rw [EE.out]
            refine ⟨_, rfl, ?_, ?_, (Fo.ofKept K1.out _).trans RF.out⟩
            · rw [flTruR, if_pos EE.out, HRR.out, HRN.out]
              exact RW.out
            · have h9 := RA.out
              rw [RT.out] at h9
              rw [flTru, if_pos EE.out, HRR.out]
              exact h9
  · have ho : ¬ stAt st (⟨mx, opl, own⟩ : Vw).own = 1 := fun e => h1 (by rw [← hs]; exact e)
    have E : Hid (flTruE st ⟨mx, opl, own⟩ l = 7) := Lib.hid (by rw [flTruE, if_neg ho])
    have x1 : ((s : Int) != 1) = true := by simp; omega
    clear ho hs h1
    go_enter Try.func47, Try.ntmps47
    go_wp2_with fail
    rw [← hW1, ← hz]
    clear hW1 hz
    go_quiet ((go_at_call 37; exact Calls.quiet_of_same (CS.out _)))
    go_wp2
    go_ret2
    rw [E.out]
    exact ⟨_, rfl, STILL.out _ ((Kept.refl W1 []).drewN _) 7 E.out (by decide)⟩
end Go.Proofs.Ytdjhcdgehmpikaa

namespace Go.Proofs.Ytdjhcdgehmpikaa
set_option linter.unusedVariables false
open Go.RowKit Go.Maps

variable {w w' : World} {B q h : Nat} {v lv : Value} {st : List Nat} {l : Fl}

/-- Those that stay. -/
def flLeft (st : List Nat) (mx : Int) (opl : List Int) (l : Fl) : Fl := l.filter fun x => !goneV st mx opl x.2

theorem flLeft_take {st : List Nat} {mx : Int} {opl : List Int} {l : Fl} {j : Nat} {x : Int × Vr} (h : l[j]? = some x) : flLeft st mx opl (l.take (j + 1)) = flLeft st mx opl (l.take j) ++ if goneV st mx opl x.2 then [] else [x] := by
  rw [List.take_add_one, h, flLeft, flLeft, List.filter_append]
  congr 1
  cases hg : goneV st mx opl x.2 <;> simp [hg]

theorem Rhe.put {w5 : World} {v5 : Value} {l5 : Fl} {C : Nat} (a : Rhe w B q h lv l) (k : Kept w w5 []) (hC : w.heap.size ≤ C) (ho : w5.ownsRow C 130 4 v5 l5.length (fcl l5)) :
    Rhe (w5.setCell ⟨h, 1, none⟩ v5) B q h v5 l5 ∧ Stp (rfoot h lv) (rfoot h v5) w (w5.setCell ⟨h, 1, none⟩ v5) := by
  have a5 := a.keep k
  have f : Fo (fun k => k = h) w5 (w5.setCell ⟨h, 1, none⟩ v5) := (Fo.refl (fun k => k = h) w5).setCell (p := ⟨h, 1, none⟩) (.inl rfl) v5
  have hlt := heap_lt a.hh
  refine ⟨⟨?_, ?_, a.bh⟩, (Fo.ofKept k _).trans (f.mono (fun k hk => .inl hk)), ?_⟩
  · have := heap_setCell_at a5.hh 1 v5
    simpa using this
  · refine ownsRow_low (ownsRow_fo ho f (fun g hg e => ?_)) (Nat.le_trans a.size hC)
    subst e
    have := (World.ownsRow.lt ho g hg).1
    omega
  · rintro j (rfl | hj)
    · exact .inl (.inl rfl)
    · exact .inr (Nat.le_trans hC (World.ownsRow.lt ho j hj).1)

/-- The cells that a round loads. -/
def VcS (V : World) (z h q xb : Nat) (mx : Int) (sl : Value) (rb rd : Int) : Prop :=
  ((((V.cell? ⟨z, 0, none⟩ = some (.int .i64 mx) ∧ V.cell? ⟨z, 1, none⟩ = some sl) ∧ V.cell? ⟨h, 0, none⟩ = some (.pointer (some ⟨q, 0, none⟩))) ∧ V.cell? ⟨xb, 2, none⟩ = some (.int .i64 rb)) ∧ V.cell? ⟨xb, 3, none⟩ = some (.int .i64 rd))

theorem VcS.keep {z xb : Nat} {mx : Int} {sl : Value} {rb rd : Int} (f : VcS w z h q xb mx sl rb rd) (hk : Kept w w' []) : VcS w' z h q xb mx sl rb rd := by
  obtain ⟨⟨⟨⟨e0, e1⟩, e2⟩, e3⟩, e4⟩ := f
  exact ⟨⟨⟨⟨hk.cell (p := ⟨z, 0, none⟩) (by simp) e0, hk.cell (p := ⟨z, 1, none⟩) (by simp) e1⟩, hk.cell (p := ⟨h, 0, none⟩) (by simp) e2⟩, hk.cell (p := ⟨xb, 2, none⟩) (by simp) e3⟩, hk.cell (p := ⟨xb, 3, none⟩) (by simp) e4⟩

theorem src_ver {W : World} {o : Obj} {z : Nat} (k : Int) (r : Vr) (hz : W.heap.size = z) (ho : o = .cells (vcs k r).toArray 130) :
    Src Try.prog 4 90 (.slice (some ⟨z, 0, none⟩) 1 1) 1 (vcs k r) (W.alloc o) := by
  subst hz; subst ho
  have hb := heap_alloc_new W (.cells (vcs k r).toArray 130)
  exact Src.ofSlice _ Try.underlying90 ⟨W.heap.size, 0, none⟩ 1 1 _ rfl (fun j u hu => by
    rw [Addr.add_lit, cell_of_row _ _ _ _ _ _ hb, Nat.zero_add]
    simpa using hu) (by intro u hu; simp [vcs] at hu; rcases hu with rfl | rfl | rfl | rfl <;> rfl)

set_option maxHeartbeats 4000000 in
set_option maxRecDepth 100000 in
theorem rvac_any (m : Rm w B q v st) (a : Rhe w B q h lv l) (mx : Int) (sl : Value) (opl : List Int) (hsl : RdI w sl opl) (hl : l.length ≤ 1000) :
    Calls Try.prog 54 #[.pointer (some ⟨h, 0, none⟩), .agg #[.int .i64 mx, sl]] w fun e w' => e = .returned (.int .i64 ((l.length : Int) - ((flLeft st mx opl l).length : Int))) ∧
      ∃ lv', Rhe w' B q h lv' (flLeft st mx opl l) ∧ Stp (rfoot h lv) (rfoot h lv') w w' := by
  obtain ⟨W1, hW1⟩ : ∃ W1, W1 = w.alloc (.cells #[.int .i64 mx, sl] 47) := ⟨_, rfl⟩
  have k1 : Kept w W1 [] := by rw [hW1]; exact (Kept.refl w []).alloc _
  obtain ⟨z, hz⟩ : ∃ z, z = w.heap.size := ⟨_, rfl⟩
  have g1 : W1.heap[z]? = some (.cells #[.int .i64 mx, sl] 47 (0, 0)) := by rw [hW1, hz]; exact heap_alloc_new w _
  have G1 := Lib.hid g1; have K1 := Lib.hid k1
  have M := Lib.hid (m.keep k1); have A := Lib.hid (a.keep k1); have HS := Lib.hid (hsl.keep k1)
  obtain ⟨u, c, hlv, hlen, hsh⟩ := A.out.shape
  obtain ⟨n, hn⟩ : ∃ n, l.length = n := ⟨_, rfl⟩
  have HN := Lib.hid hn; have HSH := Lib.hid hsh; have LV := Lib.hid hlv
  rw [hn] at hl hlen LV ⊢
  obtain ⟨i0, hi0, hz0, hz1, hzb⟩ := info_parts Try.infoVrR
  have I := Lib.hid (And.intro hi0 (And.intro hz0 (And.intro hz1 hzb)))
  obtain ⟨sa, sc, rfl, _⟩ := hsl
  have AW := Lib.hid a
  clear m a k1 g1 hsh hlv hn hi0 hz0 hz1 hzb
  go_enter Try.func54, Try.ntmps54
  go_wp2_with fail
  rw [← hW1, ← hz]
  clear hW1 hz
  go_loopw [5, 6, 7] (fun s t _ wr => ∃ j : Nat, t = .int .i64 j ∧ j ≤ n ∧ wr.ownsRow W1.heap.size 130 4 s (flLeft st mx opl (l.take j)).length (fcl (flLeft st mx opl (l.take j))) ∧ Kept W1 wr []) (fun _ t _ _ => n - (intOf t).toNat)
  case atStart => exact ⟨0, rfl, Nat.zero_le _, World.ownsRow_nil _ _ _ _, Kept.refl W1 []⟩
  case round =>
    obtain ⟨j, rfl, hj, ho, hkw⟩ := hrel
    obtain ⟨T, hT⟩ : ∃ T, flLeft st mx opl (l.take j) = T := ⟨_, rfl⟩
    rw [hT] at ho
    have hTl : T.length ≤ n := by
      rw [← hT]
      exact Nat.le_trans (List.length_filter_le _ _) (by rw [List.length_take]; omega)
    have O := Lib.hid ho; have KX := Lib.hid hkw; have HT := Lib.hid hT
    obtain ⟨al, cl, hal⟩ := ownsRow_shape ho
    have c1 := (A.out.keep hkw).cell.2
    rw [LV.out] at c1
    obtain ⟨tn, htn⟩ : ∃ tn, T.length = tn := ⟨_, rfl⟩
    have HTN := Lib.hid htn
    rw [htn] at hal hTl O
    clear ho hkw hT htn
    subst hal
    by_cases hlt : j < n
    · obtain ⟨⟨k, r⟩, hr⟩ : ∃ x, l[j]? = some x := ⟨_, List.getElem?_eq_getElem (by have := HN.out; omega)⟩
      obtain ⟨g, rfl, hnc, _, hcell⟩ := HSH.out (by have := HN.out; omega)
      obtain ⟨d0, d1, d2, d3⟩ := hcell j k r hr
      replace d0 := KX.out.cell (p := ⟨g, j * 4, none⟩) (by simp) d0
      replace d1 := KX.out.cell (p := ⟨g, j * 4 + 1, none⟩) (by simp) d1
      replace d2 := KX.out.cell (p := ⟨g, j * 4 + 2, none⟩) (by simp) d2
      replace d3 := KX.out.cell (p := ⟨g, j * 4 + 3, none⟩) (by simp) d3
      have TK := Lib.hid (flLeft_take (st := st) (mx := mx) (opl := opl) hr)
      have x1 : (j : Int) < (n : Int) := by omega
      obtain ⟨rt, rb, rd⟩ := r
      simp only at d1 d2 d3 TK
      obtain ⟨wA, hwA⟩ : ∃ wA, wA = wr.alloc (.cells #[.int .i64 k, .string rt, .int .i64 rb, .int .i64 rd] 130) := ⟨_, rfl⟩
      obtain ⟨xb, hxb⟩ : ∃ xb, xb = wr.heap.size := ⟨_, rfl⟩
      have kA : Kept wr wA [] := by rw [hwA]; exact (Kept.refl wr []).alloc _
      have gx : wA.heap[xb]? = some (.cells #[.int .i64 k, .string rt, .int .i64 rb, .int .i64 rd] 130 (0, 0)) := by rw [hwA, hxb]; exact heap_alloc_new wr _
      have KA := Lib.hid (KX.out.trans kA (by simp)); have GX := Lib.hid gx
      obtain ⟨sb, hsb⟩ : ∃ sb, stAt st rb = sb := ⟨_, rfl⟩
      obtain ⟨sd, hsd⟩ : ∃ sd, stAt st rd = sd := ⟨_, rfl⟩
      obtain ⟨y, hy⟩ : ∃ y, seesB mx opl rd = y := ⟨_, rfl⟩
      have GV : Hid (goneV st mx opl ⟨rt, rb, rd⟩ = (sb == 3 || (sd == 2 && y))) := Lib.hid (by rw [goneV_eq, hsb, hsd, hy])
      rw [HT.out] at TK
      have CSA : Hid (∀ V x, Kept wA V [] → Calls Try.prog 37 #[.pointer (some ⟨q, 0, none⟩), .int .i64 x] V fun e w' => e = .returned (.int .u8 (stAt st x)) ∧ V = w') := Lib.hid (fun V x hV => rstate_any (M.out.keep (KA.out.trans hV (by simp))) x)
      have CQ : Hid (∀ k x, Calls Try.prog 37 #[.pointer (some ⟨q, 0, none⟩), .int .i64 x] (wA.drewN k) fun e w' => e = .returned (.int .u8 (stAt st x)) ∧ w' = wA.drewN k) := Lib.hid (fun k x => (CSA.out _ x ((Kept.refl _ []).drewN k)).mono fun _ _ h => ⟨h.1, h.2.symm⟩)
      have CR : Hid (∀ V, Kept wA V [] → Calls Try.prog 73 #[.agg #[.int .i64 mx, .slice sa opl.length sc], .int .i64 rd] V fun e w' => e = .returned (.bool y) ∧ Kept wA w' []) := Lib.hid (fun V hV => by
        rw [← hy]; exact (rsees_any mx rd _ opl _ (HS.out.keep (KA.out.trans hV (by simp)))).mono (fun _ _ h => ⟨h.1, hV.trans h.2 (by simp)⟩))
      have gz := KA.out.heap (by simp) G1.out
      have vv : VcS wA z h q xb mx (.slice sa opl.length sc) rb rd := ⟨⟨⟨⟨by rw [cell_of_row _ _ 0 _ _ _ gz]; rfl, by rw [cell_of_row _ _ 1 _ _ _ gz]; rfl⟩, (A.out.keep KA.out).cell.1⟩, by rw [cell_of_row _ _ 2 _ _ _ gx]; rfl⟩, by rw [cell_of_row _ _ 3 _ _ _ gx]; rfl⟩
      have VV : Hid (∀ V, Kept wA V [] → VcS V z h q xb mx (.slice sa opl.length sc) rb rd) := Lib.hid (fun V hV => vv.keep hV)
      have XC : Hid (∀ V, Kept wA V [] → V.heap[xb]? = some (.cells #[.int .i64 k, .string rt, .int .i64 rb, .int .i64 rd] 130 (0, 0))) := Lib.hid (fun V hV => hV.heap (by simp) GX.out)
      have KAR := Lib.hid kA
      clear hnc hcell hr kA gx hy gz
      have way : sb = 3 ∨ (¬ sb = 3 ∧ ¬ sd = 2) ∨ (¬ sb = 3 ∧ sd = 2 ∧ y = true) ∨ (¬ sb = 3 ∧ sd = 2 ∧ y = false) := by
        by_cases h3 : sb = 3
        · exact .inl h3
        · by_cases h2 : sd = 2
          · cases y
            · exact .inr (.inr (.inr ⟨h3, h2, rfl⟩))
            · exact .inr (.inr (.inl ⟨h3, h2, rfl⟩))
          · exact .inr (.inl ⟨h3, h2⟩)
      rcases way with hw | ⟨hw, hw2⟩ | ⟨hw, hw2, hw3⟩ | ⟨hw, hw2, hw3⟩
      · subst hw
        have TK2 : Hid (flLeft st mx opl (l.take (j + 1)) = T) := Lib.hid (by rw [TK.out, GV.out]; simp)
        unfold VcS at vv
        obtain ⟨⟨⟨⟨e0, e1⟩, e2⟩, e3⟩, e4⟩ := vv
        go_wp2_with fail
        rw [← hwA, ← hxb]
        clear hwA hxb
        go_quiet ((go_at_call 37; exact Calls.quiet_of_same (CQ.out _ _)))
        have K8 : Hid (Kept wA (wA.drewN nq) []) := Lib.hid ((Kept.refl wA []).drewN _)
        clear c1 d0 d1 d2 d3
        go_wp2
        go_roundw
        case rel => exact ⟨j + 1, by go_num, by omega, by rw [TK2.out, HTN.out]; exact ownsRow_fr O.out (Fr.ofKept (KAR.out.trans K8.out (by simp)) 0 []) (by simp), KA.out.trans K8.out (by simp)⟩
        case measure => simp [intOf]; omega
      · have x3 : ¬ (sb : Int) = 3 := by omega
        have x2 : ¬ (sd : Int) = 2 := by omega
        have x3b : ((sb : Int) == 3) = false := by rw [beq_eq_false_iff_ne]; omega
        have x2b : ((sd : Int) == 2) = false := by rw [beq_eq_false_iff_ne]; omega
        have TK2 : Hid (flLeft st mx opl (l.take (j + 1)) = T ++ [(k, ⟨rt, rb, rd⟩)]) := Lib.hid (by rw [TK.out, GV.out]; simp [hw, hw2])
        clear hw hw2 x3 x2
        unfold VcS at vv
        obtain ⟨⟨⟨⟨e0, e1⟩, e2⟩, e3⟩, e4⟩ := vv
        go_wp2_with fail
        rw [← hwA, ← hxb]
        clear hwA hxb
        go_quiet ((go_at_call 37; exact Calls.quiet_of_same (CQ.out _ _)))
        have K8 : Hid (Kept wA (wA.drewN nq) []) := Lib.hid ((Kept.refl wA []).drewN _)
        obtain ⟨wC, hwC⟩ : ∃ wC, wC = wA.drewN nq := ⟨_, rfl⟩
        have K9 := Lib.hid (show Kept wA wC [] by rw [hwC]; exact K8.out)
        clear c1 d0 d1 d2 d3
        have gx := XC.out _ K9.out
        have p0 : wC.cell? ⟨xb, 0, none⟩ = some (.int .i64 k) := by rw [cell_of_row _ _ 0 _ _ _ gx]; rfl
        have p1 : wC.cell? ⟨xb, 1, none⟩ = some (.string rt) := by rw [cell_of_row _ _ 1 _ _ _ gx]; rfl
        have p2 : wC.cell? ⟨xb, 2, none⟩ = some (.int .i64 rb) := by rw [cell_of_row _ _ 2 _ _ _ gx]; rfl
        have p3 : wC.cell? ⟨xb, 3, none⟩ = some (.int .i64 rd) := by rw [cell_of_row _ _ 3 _ _ _ gx]; rfl
        have OC := Lib.hid (ownsRow_fr O.out (Fr.ofKept ((KAR.out.trans K9.out (by simp)).alloc (.cells (vcs k ⟨rt, rb, rd⟩).toArray 130)) 0 []) (by simp))
        have BC : Hid (W1.heap.size ≤ (wC.alloc (.cells (vcs k ⟨rt, rb, rd⟩).toArray 130)).heap.size) := Lib.hid (Nat.le_trans (KA.out.trans K9.out (by simp)).size ((Kept.refl wC []).alloc _).size)
        have SC := Lib.hid (src_ver (W := wC) k ⟨rt, rb, rd⟩ rfl rfl)
        rw [← hwC]
        clear hwC gx
        go_wp2_with (at_builtin; refine wpList_append_all _ rfl (.tmp 49) (.tmp 51) 90 90 rfl W1.heap.size 130 i0 _ 4 40 Try.underlying90 I.out.1 I.out.2.1 I.out.2.2.1 I.out.2.2.2 rfl (.slice al tn cl) tn (fcl T) rfl ?hown _ 1 (vcs k ⟨rt, rb, rd⟩) rfl ?hsrc ?b1 ?b2 ?base ?next)
        case hown => exact OC.out
        case hsrc => exact SC.out
        case b1 => unfold maxLen; omega
        case b2 => omega
        case base => exact BC.out
        case next =>
          intro v5 w5 ho5 _ hg5 _
          obtain ⟨a5, c5, hs5⟩ := ownsRow_shape ho5
          have e1 : fcl T ++ vcs k ⟨rt, rb, rd⟩ = fcl (T ++ [(k, ⟨rt, rb, rd⟩)]) := by rw [fcl_append]; simp [fcl]
          rw [e1] at ho5
          have O5 : Hid (w5.ownsRow W1.heap.size 130 4 v5 (T ++ [(k, (⟨rt, rb, rd⟩ : Vr))]).length (fcl (T ++ [(k, ⟨rt, rb, rd⟩)]))) := Lib.hid (by rw [List.length_append, HTN.out]; exact ho5)
          have K5 := Lib.hid (((KA.out.trans K9.out (by simp)).alloc (.cells (vcs k ⟨rt, rb, rd⟩).toArray 130)).grown hg5 (fun j hj => .inr ((World.ownsRow.lt O.out j hj).1)))
          clear ho5 hg5 e1 p0 p1 p2 p3
          subst hs5
          go_wp2
          go_roundw
          case rel => exact ⟨j + 1, by go_num, by omega, by rw [TK2.out]; exact O5.out, K5.out⟩
          case measure => simp [intOf]; omega
      · subst hw2
        subst hw3
        have x3b : ((sb : Int) == 3) = false := by rw [beq_eq_false_iff_ne]; omega
        have TK2 : Hid (flLeft st mx opl (l.take (j + 1)) = T) := Lib.hid (by rw [TK.out, GV.out]; simp)
        clear hw
        have k8 : Kept wA wA.drew [] := (Kept.refl wA []).drew
        have yy := VV.out _ k8
        unfold VcS at yy
        clear vv
        go_wp2_with fail
        rw [← hwA, ← hxb]
        clear hwA hxb
        go_region_held3 (fun V => ((((V.cell? ⟨z, 0, none⟩ = some (.int .i64 mx) ∧ V.cell? ⟨z, 1, none⟩ = some (.slice sa opl.length sc)) ∧ V.cell? ⟨h, 0, none⟩ = some (.pointer (some ⟨q, 0, none⟩))) ∧ V.cell? ⟨xb, 2, none⟩ = some (.int .i64 rb)) ∧ V.cell? ⟨xb, 3, none⟩ = some (.int .i64 rd))) (exact yy)
          (first
            | (go_at_call 37; refine (CSA.out _ _ ?_).mono ?_; exact k8; rintro e w8 ⟨rfl, rfl⟩)
            | (go_at_call 73; refine (CR.out _ ?_).mono ?_; exact k8; rintro e w8 ⟨rfl, k8⟩; have yy := VV.out _ k8; unfold VcS at yy))
        have K8 := Lib.hid k8
        clear k8 yy
        clear c1 d0 d1 d2 d3
        go_wp2
        go_roundw
        case rel => exact ⟨j + 1, by go_num, by omega, by rw [TK2.out, HTN.out]; exact ownsRow_fr O.out (Fr.ofKept (KAR.out.trans K8.out (by simp)) 0 []) (by simp), KA.out.trans K8.out (by simp)⟩
        case measure => simp [intOf]; omega
      · subst hw2
        subst hw3
        have x3b : ((sb : Int) == 3) = false := by rw [beq_eq_false_iff_ne]; omega
        have TK2 : Hid (flLeft st mx opl (l.take (j + 1)) = T ++ [(k, ⟨rt, rb, rd⟩)]) := Lib.hid (by rw [TK.out, GV.out]; simp [hw])
        clear hw
        have k8 : Kept wA wA.drew [] := (Kept.refl wA []).drew
        have yy := VV.out _ k8
        unfold VcS at yy
        clear vv
        go_wp2_with fail
        rw [← hwA, ← hxb]
        clear hwA hxb
        go_region_held3 (fun V => ((((V.cell? ⟨z, 0, none⟩ = some (.int .i64 mx) ∧ V.cell? ⟨z, 1, none⟩ = some (.slice sa opl.length sc)) ∧ V.cell? ⟨h, 0, none⟩ = some (.pointer (some ⟨q, 0, none⟩))) ∧ V.cell? ⟨xb, 2, none⟩ = some (.int .i64 rb)) ∧ V.cell? ⟨xb, 3, none⟩ = some (.int .i64 rd))) (exact yy)
          (first
            | (go_at_call 37; refine (CSA.out _ _ ?_).mono ?_; exact k8; rintro e w8 ⟨rfl, rfl⟩)
            | (go_at_call 73; refine (CR.out _ ?_).mono ?_; exact k8; rintro e w8 ⟨rfl, k8⟩; have yy := VV.out _ k8; unfold VcS at yy))
        have K8 := Lib.hid k8
        clear k8 yy
        obtain ⟨wC, hwC⟩ : ∃ wC, wC = w8 := ⟨_, rfl⟩
        have K9 := Lib.hid (show Kept wA wC [] by rw [hwC]; exact K8.out)
        clear c1 d0 d1 d2 d3
        have gx := XC.out _ K9.out
        have p0 : wC.cell? ⟨xb, 0, none⟩ = some (.int .i64 k) := by rw [cell_of_row _ _ 0 _ _ _ gx]; rfl
        have p1 : wC.cell? ⟨xb, 1, none⟩ = some (.string rt) := by rw [cell_of_row _ _ 1 _ _ _ gx]; rfl
        have p2 : wC.cell? ⟨xb, 2, none⟩ = some (.int .i64 rb) := by rw [cell_of_row _ _ 2 _ _ _ gx]; rfl
        have p3 : wC.cell? ⟨xb, 3, none⟩ = some (.int .i64 rd) := by rw [cell_of_row _ _ 3 _ _ _ gx]; rfl
        have OC := Lib.hid (ownsRow_fr O.out (Fr.ofKept ((KAR.out.trans K9.out (by simp)).alloc (.cells (vcs k ⟨rt, rb, rd⟩).toArray 130)) 0 []) (by simp))
        have BC : Hid (W1.heap.size ≤ (wC.alloc (.cells (vcs k ⟨rt, rb, rd⟩).toArray 130)).heap.size) := Lib.hid (Nat.le_trans (KA.out.trans K9.out (by simp)).size ((Kept.refl wC []).alloc _).size)
        have SC := Lib.hid (src_ver (W := wC) k ⟨rt, rb, rd⟩ rfl rfl)
        rw [← hwC]
        clear hwC gx
        go_wp2_with (at_builtin; refine wpList_append_all _ rfl (.tmp 49) (.tmp 51) 90 90 rfl W1.heap.size 130 i0 _ 4 40 Try.underlying90 I.out.1 I.out.2.1 I.out.2.2.1 I.out.2.2.2 rfl (.slice al tn cl) tn (fcl T) rfl ?hown _ 1 (vcs k ⟨rt, rb, rd⟩) rfl ?hsrc ?b1 ?b2 ?base ?next)
        case hown => exact OC.out
        case hsrc => exact SC.out
        case b1 => unfold maxLen; omega
        case b2 => omega
        case base => exact BC.out
        case next =>
          intro v5 w5 ho5 _ hg5 _
          obtain ⟨a5, c5, hs5⟩ := ownsRow_shape ho5
          have e1 : fcl T ++ vcs k ⟨rt, rb, rd⟩ = fcl (T ++ [(k, ⟨rt, rb, rd⟩)]) := by rw [fcl_append]; simp [fcl]
          rw [e1] at ho5
          have O5 : Hid (w5.ownsRow W1.heap.size 130 4 v5 (T ++ [(k, (⟨rt, rb, rd⟩ : Vr))]).length (fcl (T ++ [(k, ⟨rt, rb, rd⟩)]))) := Lib.hid (by rw [List.length_append, HTN.out]; exact ho5)
          have K5 := Lib.hid (((KA.out.trans K9.out (by simp)).alloc (.cells (vcs k ⟨rt, rb, rd⟩).toArray 130)).grown hg5 (fun j hj => .inr ((World.ownsRow.lt O.out j hj).1)))
          clear ho5 hg5 e1 p0 p1 p2 p3
          subst hs5
          go_wp2
          go_roundw
          case rel => exact ⟨j + 1, by go_num, by omega, by rw [TK2.out]; exact O5.out, K5.out⟩
          case measure => simp [intOf]; omega
    · have x1 : ¬ (j : Int) < (n : Int) := by omega
      have E : Hid (flLeft st mx opl l = T) := Lib.hid (by have h9 := HT.out; rw [List.take_of_length_le (by have := HN.out; omega)] at h9; exact h9)
      have wq : wrap64 ((n : Int) - (tn : Int)) = (n : Int) - (tn : Int) := by unfold wrap64; omega
      have fz : wr.frozen? ⟨h, 1, none⟩ = false := frozen_of_row _ _ _ _ _ (A.out.keep KX.out).hh
      have PT := Lib.hid (AW.out.put (K1.out.trans KX.out (by simp)) K1.out.size (show wr.ownsRow W1.heap.size 130 4 (.slice al tn cl) T.length (fcl T) by rw [HTN.out]; exact O.out))
      go_wp2
      go_ret
      rw [E.out, HTN.out]
      exact ⟨rfl, _, PT.out.1, PT.out.2⟩
end Go.Proofs.Ytdjhcdgehmpikaa

namespace Go.Proofs.Ytdjhcdgehmpikaa
set_option linter.unusedVariables false
open Go.RowKit Go.Maps

/-- Of the blocks that were there only such have turned as lie from B on and bear a type of ts. -/
def Fy (B : Nat) (ts : List TypeId) (w w' : World) : Prop := Fo (fun k => B ≤ k ∧ ∃ cs t fz, w.heap[k]? = some (.cells cs t fz) ∧ t ∈ ts) w w'

variable {w w' : World} {B q zb h : Nat} {v zv lv : Value} {st : List Nat} {l : Fl}

theorem Fy.refl (B : Nat) (ts : List TypeId) (w : World) : Fy B ts w w := Fo.refl _ w
theorem Fy.ofKept (hk : Kept w w' []) (B : Nat) (ts : List TypeId) : Fy B ts w w' := Fo.ofKept hk _
theorem Fy.trans {ts : List TypeId} {a b c : World} (h : Fy B ts a b) (k : Fy B ts b c) : Fy B ts a c := by
  refine ⟨k.os.trans h.os, k.tape.trans h.tape, k.output.trans h.output, Nat.le_trans h.size k.size, fun j hj hn => ?_⟩
  have e1 := h.block j hj hn
  have hn2 : ¬ (B ≤ j ∧ ∃ cs t fz, b.heap[j]? = some (.cells cs t fz) ∧ t ∈ ts) := fun hh => hn (by rw [e1] at hh; exact hh)
  exact (k.block j (Nat.lt_of_lt_of_le hj h.size) hn2).trans e1
theorem Fy.mono {ts us : List TypeId} (h : Fy B ts w w') (hs : ∀ t, t ∈ ts → t ∈ us) : Fy B us w w' := Fo.mono h (fun k ⟨h1, cs, t, fz, h2, h3⟩ => ⟨h1, cs, t, fz, h2, hs t h3⟩)
theorem Fy.ofFr {ts : List TypeId} (h : Fr B ts w w') : Fy B ts w w' := by
  refine ⟨h.os, h.tape, h.output, h.size, fun k hk hn => ?_⟩
  rcases h.block k hk with h1 | ⟨h1, cs, cs', t, fz, h2, h3, _⟩
  · exact h1
  · exact absurd ⟨h1, cs, t, fz, h3, h2⟩ hn
theorem Fy.heap {ts : List TypeId} (hf : Fy B ts w w') {g : Nat} {cs : Array Value} {t : TypeId} {fz : Nat × Nat} (hg : w.heap[g]? = some (.cells cs t fz)) (ht : t ∉ ts) : w'.heap[g]? = some (.cells cs t fz) := by
  refine Fo.heap hf ?_ hg
  rintro ⟨_, cs', t', fz', h2, h3⟩
  rw [hg] at h2
  simp only [Option.some.injEq, Obj.cells.injEq] at h2
  obtain ⟨_, rfl, _⟩ := h2
  exact ht h3
theorem Fy.row {ts : List TypeId} (hf : Fy B ts w w') {base e sz n : Nat} {u : Value} {xs : List Value} (hr : w.ownsRow base e sz u n xs) (he : e ∉ ts) : w'.ownsRow base e sz u n xs := by
  refine ⟨hr.1, ?_⟩
  rcases hr.2 with h2 | ⟨g, cap, cur, rfl, hbg, hg, r⟩
  · exact .inl h2
  · exact .inr ⟨g, cap, cur, rfl, hbg, hf.heap hg he, r⟩
theorem Fy.below {ts : List TypeId} (hf : Fy B ts w w') {C : Nat} (h1 : C ≤ B) (h2 : C ≤ w.heap.size) : Below C w w' := Fo.below hf h2 (fun k hk => Nat.le_trans h1 hk.1)

/-- The types of the blocks of the document's side. -/
def tysR : List TypeId := [30, 5, 92, 130, 39, 89]

/-- The code's store stands. -/
theorem Sto.fy {p r C : Nat} {O : Nat → Prop} {T : List Tab} (s : Sto w B p r O st T) (hf : Fy C tysR w w') : Sto w' B p r O st T := by
  refine s.fo hf (fun k hk ⟨_, cs, t, fz, h2, h3⟩ => ?_)
  refine s.notO h2 ?_ hk
  simp only [tysR, List.mem_cons, List.not_mem_nil, or_false] at h3
  rcases h3 with rfl | rfl | rfl | rfl | rfl | rfl <;> decide

/-- One of the document's heaps. -/
structure Rq where
  h : Nat
  O : Nat → Prop
  l : Fl

def Rq.live (w : World) (B q : Nat) (t : Rq) : Prop := ∃ lv, Rhe w B q t.h lv t.l ∧ t.O = rfoot t.h lv

def rps (L : List Rq) : List Value := L.map fun t => .pointer (some ⟨t.h, 0, none⟩)

structure Zc (w : World) (B zb : Nat) (zv : Value) (L : List Rq) : Prop where
  hr : w.heap[zb]? = some (.cells #[zv] 39 (0, 0))
  hv : w.ownsRow B 89 1 zv L.length (rps L)
  br : B ≤ zb

/-- The document's store: its manager, its heaps, its own cells. -/
structure Rsx (w : World) (B q zb : Nat) (v zv : Value) (st : List Nat) (L : List Rq) : Prop where
  rm : Rm w B q v st
  hs : ∀ (i : Nat) (t : Rq), L[i]? = some t → t.live w B q
  dj : ∀ (i j : Nat) (t u : Rq), L[i]? = some t → L[j]? = some u → i ≠ j → ∀ k, t.O k → ¬ u.O k
  zc : Zc w B zb zv L

def Rst (w : World) (B q zb : Nat) (st : List Nat) (T : List Fl) : Prop := ∃ v zv L, Rsx w B q zb v zv st L ∧ T = L.map Rq.l

theorem Rm.ty {P : Nat → Prop} (m : Rm w B q v st) (hf : Fo P w w') (hp : ∀ k cs t fz, w.heap[k]? = some (.cells cs t fz) → t ∈ [30, 5] → ¬ P k) : Rm w' B q v st := by
  refine { m with hp := hf.heap (hp _ _ _ _ m.hp (by simp)) m.hp, hv := ownsRow_fo m.hv hf (fun g hg => ?_) }
  rcases m.hv.2 with ⟨h2, _⟩ | ⟨g', cap, cur, h2, _, hh, _⟩
  · rw [h2] at hg; cases hg
  · rw [h2] at hg
    simp only [Value.ownBlock, Option.some.injEq] at hg
    subst hg
    exact hp _ _ _ _ hh (by simp)

theorem Rq.live.ty {P : Nat → Prop} {t : Rq} (a : t.live w B q) (hf : Fo P w w') (hp : ∀ k cs t fz, w.heap[k]? = some (.cells cs t fz) → t ∈ [92, 130] → ¬ P k) : t.live w' B q := by
  obtain ⟨lv, a, e⟩ := a
  refine ⟨lv, a.fo hf ?_, e⟩
  rintro k (rfl | hk)
  · exact hp _ _ _ _ a.hh (by simp)
  · obtain ⟨cur, h3⟩ := a.own hk
    exact hp _ _ _ _ h3 (by simp)

theorem Zc.ty {P : Nat → Prop} {L : List Rq} (c : Zc w B zb zv L) (hf : Fo P w w') (hp : ∀ k cs t fz, w.heap[k]? = some (.cells cs t fz) → t ∈ [39, 89] → ¬ P k) : Zc w' B zb zv L := by
  refine ⟨hf.heap (hp _ _ _ _ c.hr (by simp)) c.hr, ownsRow_fo c.hv hf (fun g hg => ?_), c.br⟩
  rcases c.hv.2 with ⟨h2, _⟩ | ⟨g', cap, cur, h2, _, hh, _⟩
  · rw [h2] at hg; cases hg
  · rw [h2] at hg
    simp only [Value.ownBlock, Option.some.injEq] at hg
    subst hg
    exact hp _ _ _ _ hh (by simp)

theorem Rsx.ty {P : Nat → Prop} {L : List Rq} (a : Rsx w B q zb v zv st L) (hf : Fo P w w') (hp : ∀ k cs t fz, w.heap[k]? = some (.cells cs t fz) → t ∈ tysR → ¬ P k) : Rsx w' B q zb v zv st L :=
  ⟨a.rm.ty hf (fun k cs t fz h1 h2 => hp k cs t fz h1 (by simp only [tysR, List.mem_cons, List.not_mem_nil, or_false] at h2 ⊢; rcases h2 with h | h <;> simp [h])),
   fun i t ht => (a.hs i t ht).ty hf (fun k cs t fz h1 h2 => hp k cs t fz h1 (by simp only [tysR, List.mem_cons, List.not_mem_nil, or_false] at h2 ⊢; rcases h2 with h | h <;> simp [h])), a.dj,
   a.zc.ty hf (fun k cs t fz h1 h2 => hp k cs t fz h1 (by simp only [tysR, List.mem_cons, List.not_mem_nil, or_false] at h2 ⊢; rcases h2 with h | h <;> simp [h]))⟩

theorem Rst.keep {T : List Fl} (a : Rst w B q zb st T) (hk : Kept w w' []) : Rst w' B q zb st T := by
  obtain ⟨v, zv, L, a, e⟩ := a
  exact ⟨v, zv, L, a.ty (Fo.ofKept hk (fun _ => False)) (fun _ _ _ _ _ _ h => h), e⟩

/-- What the code's store does leaves the document's. -/
theorem Rst.co {T : List Fl} {C p r : Nat} {O : Nat → Prop} {T' : List Tab} {st' : List Nat} (a : Rst w B q zb st T) (s : Sto w C p r O st' T') (hf : Fo O w w') : Rst w' B q zb st T := by
  obtain ⟨v, zv, L, a, e⟩ := a
  refine ⟨v, zv, L, a.ty hf (fun k cs t fz h1 h2 => s.notO h1 ?_), e⟩
  simp only [tysR, List.mem_cons, List.not_mem_nil, or_false] at h2
  rcases h2 with rfl | rfl | rfl | rfl | rfl | rfl <;> decide

theorem rps_set {L : List Rq} {i : Nat} {t : Rq} (ht : L[i]? = some t) {O' : Nat → Prop} {l' : Fl} : rps (L.set i ⟨t.h, O', l'⟩) = rps L := by
  apply List.ext_getElem?
  intro j
  simp only [rps, List.getElem?_map]
  by_cases e : i = j
  · subst e
    have hl : i < L.length := (List.getElem?_eq_some_iff.1 ht).1
    rw [List.getElem?_set_self hl, ht]
    rfl
  · rw [List.getElem?_set_ne e]

theorem Rhe.fy (a : Rhe w B q h lv l) (hf : Fo (rfoot h lv) w w') : Fy B tysR w w' := by
  refine Fo.mono hf ?_
  rintro k (rfl | hk)
  · exact ⟨a.bh, _, _, _, a.hh, by simp [tysR]⟩
  · obtain ⟨cur, h3⟩ := a.own hk
    exact ⟨(World.ownsRow.lt a.hv k hk).1, _, _, _, h3, by simp [tysR]⟩

/-- A call on one heap. -/
theorem Rsx.put {L : List Rq} {i : Nat} {t : Rq} {lv lv' : Value} {l' : Fl} (a : Rsx w B q zb v zv st L) (ht : L[i]? = some t) (x : Rhe w B q t.h lv t.l) (e : t.O = rfoot t.h lv)
    (x' : Rhe w' B q t.h lv' l') (f : Stp (rfoot t.h lv) (rfoot t.h lv') w w') : Rst w' B q zb st ((L.map Rq.l).set i l') ∧ Fy B tysR w w' := by
  refine ⟨⟨v, zv, L.set i ⟨t.h, rfoot t.h lv', l'⟩, ⟨x.man f.1 a.rm, ?_, ?_, ?_⟩, by rw [List.map_set]⟩, x.fy f.1⟩
  · intro j u hu
    rcases getElem?_set_some ht hu with ⟨_, rfl⟩ | ⟨hj, hu⟩
    · exact ⟨lv', x', rfl⟩
    · obtain ⟨lu, y, ey⟩ := a.hs j u hu
      refine ⟨lu, y.fo f.1 (fun k hk => ?_), ey⟩
      have := a.dj j i u t hu ht hj k (by rw [ey]; exact hk)
      rw [e] at this
      exact this
  · intro j m u y hu hy hjm k hk
    rcases getElem?_set_some ht hu with ⟨rfl, rfl⟩ | ⟨hj, hu1⟩
    · rcases getElem?_set_some ht hy with ⟨rfl, rfl⟩ | ⟨hm, hy⟩
      · exact absurd rfl hjm
      · rcases f.2 k hk with h1 | h1
        · exact a.dj j m t y ht hy hjm k (by rw [e]; exact h1)
        · intro h2
          obtain ⟨ly, z, ez⟩ := a.hs m y hy
          rw [ez] at h2
          have := (z.bound k h2).2
          omega
    · rcases getElem?_set_some ht hy with ⟨rfl, rfl⟩ | ⟨hm, hy1⟩
      · intro h2
        rcases f.2 k h2 with h1 | h1
        · exact a.dj j m u t hu1 ht hjm k hk (by rw [e]; exact h1)
        · obtain ⟨lu, z, ez⟩ := a.hs j u hu1
          rw [ez] at hk
          have := (z.bound k hk).2
          omega
      · exact a.dj j m u y hu1 hy1 hjm k hk
  · have hl : (L.set i ⟨t.h, rfoot t.h lv', l'⟩ : List Rq).length = L.length := by simp
    exact ⟨x.heap f.1 a.zc.hr (by decide), by rw [hl, rps_set ht]; exact x.row f.1 a.zc.hv (by decide), a.zc.br⟩

/-- A call on the manager. -/
theorem Rsx.man {L : List Rq} {v' : Value} {st' : List Nat} (a : Rsx w B q zb v zv st L) (m : Rm w' B q v' st') (hf : Fr B rts w w') : Rst w' B q zb st' (L.map Rq.l) ∧ Fy B tysR w w' := by
  have fy := Fy.ofFr hf
  refine ⟨⟨v', zv, L, ⟨m, fun i t ht => (a.hs i t ht).ty fy ?_, a.dj, a.zc.ty fy ?_⟩, rfl⟩, fy.mono (by intro t ht; simp only [rts, List.mem_cons, List.not_mem_nil, or_false] at ht; rcases ht with h | h <;> simp [tysR, h])⟩
  · intro k cs t fz h1 h2 ⟨_, cs', t', fz', h3, h4⟩
    rw [h1] at h3
    simp only [Option.some.injEq, Obj.cells.injEq] at h3
    obtain ⟨_, rfl, _⟩ := h3
    simp only [rts, List.mem_cons, List.not_mem_nil, or_false] at h2 h4
    rcases h2 with rfl | rfl <;> revert h4 <;> decide
  · intro k cs t fz h1 h2 ⟨_, cs', t', fz', h3, h4⟩
    rw [h1] at h3
    simp only [Option.some.injEq, Obj.cells.injEq] at h3
    obtain ⟨_, rfl, _⟩ := h3
    simp only [rts, List.mem_cons, List.not_mem_nil, or_false] at h2 h4
    rcases h2 with rfl | rfl <;> revert h4 <;> decide
end Go.Proofs.Ytdjhcdgehmpikaa

namespace Go.Proofs.Ytdjhcdgehmpikaa
set_option linter.unusedVariables false
open Go.RowKit Go.Maps

theorem Try.infoHr : (Try.prog.info? 89).map (fun i => (i.zero, i.size, i.bytes)) = some (some (.pointer none), 1, 8) := by kernel_rfl

variable {w w' : World} {B q zb h : Nat} {v zv lv : Value} {st : List Nat} {l : Fl}

/-- The document's store while it is made. -/
structure Mz (w wr : World) (B q zb : Nat) (v zv : Value) (st : List Nat) (L : List Rq) (k : Nat) : Prop where
  rm : Rm wr B q v st
  hs : ∀ (i : Nat) (t : Rq), L[i]? = some t → t.live wr B q
  dj : ∀ (i j : Nat) (t u : Rq), L[i]? = some t → L[j]? = some u → i ≠ j → ∀ k, t.O k → ¬ u.O k
  ln : L.length = k
  tb : L.map Rq.l = List.replicate k []
  hr : wr.heap[zb]? = some (.cells #[zv] 39 (0, 0))
  hv : wr.ownsRow w.heap.size 89 1 zv k (rps L)
  kp : Kept w wr []

theorem Mz.next {wr wA wB w5 : World} {v5 : Value} {L : List Rq} {k : Nat} (a : Mz w wr B q zb v zv st L k) (hz : w.heap.size ≤ zb)
    (hA : wA = wr.alloc (.cells #[.pointer (some ⟨q, 0, none⟩), .slice none 0 0] 92)) (hB : wB = wA.alloc (.cells #[.pointer (some ⟨wr.heap.size, 0, none⟩)] 89))
    (ho : w5.ownsRow w.heap.size 89 1 v5 (k + 1) (rps L ++ [.pointer (some ⟨wr.heap.size, 0, none⟩)])) (hg : wB.grownBy w5 zv.ownBlock) :
    w5.cell? ⟨zb, 0, none⟩ = some zv ∧ w5.frozen? ⟨zb, 0, none⟩ = false ∧ Mz w (w5.setCell ⟨zb, 0, none⟩ v5) B q zb v v5 st (L ++ [⟨wr.heap.size, rfoot wr.heap.size (.slice none 0 0), []⟩]) (k + 1) := by
  have kA : Kept wr wA [] := by rw [hA]; exact (Kept.refl wr []).alloc _
  have kB : Kept wr wB [] := by rw [hB]; exact kA.alloc _
  have hown : ∀ g, zv.ownBlock = some g → w.heap.size ≤ g ∧ ∃ cur, wr.heap[g]? = some (.cells cur 89 (0, 0)) := by
    intro g hg'
    refine ⟨(World.ownsRow.lt a.hv g hg').1, ?_⟩
    rcases a.hv.2 with ⟨h2, _⟩ | ⟨g', cap, cur, h2, _, hh, _⟩
    · rw [h2] at hg'; cases hg'
    · rw [h2] at hg'
      simp only [Value.ownBlock, Option.some.injEq] at hg'
      subst hg'
      exact ⟨cur, hh⟩
  have gA : wB.heap[wr.heap.size]? = some (.cells #[.pointer (some ⟨q, 0, none⟩), .slice none 0 0] 92 (0, 0)) := by
    have k9 : Kept wA wB [] := by rw [hB]; exact (Kept.refl wA []).alloc _
    exact k9.heap (by simp) (by rw [hA]; exact heap_alloc_new wr _)
  have hBq : B ≤ wr.heap.size := by have := heap_lt a.rm.hp; have := a.rm.bp; omega
  have x0 : Rhe wB B q wr.heap.size (.slice none 0 0) [] := ⟨gA, World.ownsRow_nil _ _ _ _, hBq⟩
  have f5 : Fo (fun k => zv.ownBlock = some k) wB w5 := (Fo.refl _ wB).grown hg (fun k hk => .inl hk)
  have hz5 : w5.heap[zb]? = some (.cells #[zv] 39 (0, 0)) := f5.heap (fun e => by
    obtain ⟨_, cur, h2⟩ := hown zb e
    rw [a.hr] at h2
    simp at h2) (kB.heap (by simp) a.hr)
  have f6 : Fo (fun k => k = zb) w5 (w5.setCell ⟨zb, 0, none⟩ v5) := (Fo.refl (fun k => k = zb) w5).setCell (p := ⟨zb, 0, none⟩) (.inl rfl) v5
  have F : Fo (fun k => zv.ownBlock = some k ∨ k = zb) wB (w5.setCell ⟨zb, 0, none⟩ v5) := (f5.mono (fun k hk => .inl hk)).trans (f6.mono (fun k hk => .inr hk))
  have nt : ∀ k cs t fz, wB.heap[k]? = some (.cells cs t fz) → t ∉ [39, 89] → ¬ (zv.ownBlock = some k ∨ k = zb) := by
    intro j cs t fz h1 h2 h3
    rcases h3 with h3 | rfl
    · obtain ⟨_, cur, h4⟩ := hown j h3
      rw [kB.heap (by simp) h4] at h1
      simp only [Option.some.injEq, Obj.cells.injEq] at h1
      exact h2 (by simp [← h1.2.1])
    · rw [kB.heap (by simp) a.hr] at h1
      simp only [Option.some.injEq, Obj.cells.injEq] at h1
      exact h2 (by simp [← h1.2.1])
  have nt2 : ∀ k cs t fz, wB.heap[k]? = some (.cells cs t fz) → t ∈ [92, 130] → ¬ (zv.ownBlock = some k ∨ k = zb) := fun k cs t fz h1 h2 => nt k cs t fz h1 (by
    simp only [List.mem_cons, List.not_mem_nil, or_false] at h2
    rcases h2 with rfl | rfl <;> decide)
  have cs : ∀ (i : Nat) (t : Rq), (L ++ [(⟨wr.heap.size, rfoot wr.heap.size (.slice none 0 0), []⟩ : Rq)])[i]? = some t → L[i]? = some t ∨ (i = L.length ∧ t = ⟨wr.heap.size, rfoot wr.heap.size (.slice none 0 0), []⟩) := by
    intro i t ht
    rcases Nat.lt_or_ge i L.length with h | h
    · rw [List.getElem?_append_left h] at ht; exact .inl ht
    · rw [List.getElem?_append_right h] at ht
      rcases Nat.eq_zero_or_pos (i - L.length) with z | z
      · rw [z] at ht; simp at ht; exact .inr ⟨by omega, ht.symm⟩
      · rw [List.getElem?_eq_none (by simp; omega)] at ht; cases ht
  have low : ∀ (i : Nat) (t : Rq), L[i]? = some t → ∀ k, t.O k → k < wr.heap.size := fun i t ht k hk => by
    obtain ⟨lu, y, ey⟩ := a.hs i t ht
    rw [ey] at hk
    exact (y.bound k hk).2
  have new : ∀ k, rfoot wr.heap.size (.slice none 0 0) k → k = wr.heap.size := by
    rintro k (h | h)
    · exact h
    · cases h
  refine ⟨by rw [cell_of_row w5 zb 0 _ _ _ hz5]; rfl, frozen_of_row _ _ _ _ _ hz5, ⟨?_, ?_, ?_, by simp [a.ln], ?_, ?_, ?_, ?_⟩⟩
  · exact (a.rm.keep kB).ty F (fun k cs t fz h1 h2 => nt k cs t fz h1 (by
      simp only [List.mem_cons, List.not_mem_nil, or_false] at h2
      rcases h2 with rfl | rfl <;> decide))
  · intro i t ht
    rcases cs i t ht with h1 | ⟨_, rfl⟩
    · exact ((a.hs i t h1).ty (Fo.ofKept kB (fun _ => False)) (fun _ _ _ _ _ _ h => h)).ty F nt2
    · exact Rq.live.ty (t := ⟨wr.heap.size, rfoot wr.heap.size (.slice none 0 0), []⟩) ⟨_, x0, rfl⟩ F nt2
  · intro i j t u ht hu hij k hk
    rcases cs i t ht with h1 | ⟨rfl, rfl⟩
    · rcases cs j u hu with h2 | ⟨rfl, rfl⟩
      · exact a.dj i j t u h1 h2 hij k hk
      · intro h3
        have := low i t h1 k hk
        have := new k h3
        omega
    · rcases cs j u hu with h2 | ⟨rfl, rfl⟩
      · intro h3
        have := low j u h2 k h3
        have := new k hk
        omega
      · exact absurd rfl hij
  · rw [List.map_append, a.tb, List.replicate_succ']; rfl
  · have := heap_setCell_at hz5 0 v5
    simpa using this
  · have e1 : rps (L ++ [⟨wr.heap.size, rfoot wr.heap.size (.slice none 0 0), []⟩]) = rps L ++ [.pointer (some ⟨wr.heap.size, 0, none⟩)] := by simp [rps]
    rw [e1]
    refine ownsRow_fo ho f6 (fun g hg' e => ?_)
    subst e
    rcases ho.2 with ⟨h2, _⟩ | ⟨g', cap, cur, h2, _, hh, _⟩
    · rw [h2] at hg'; cases hg'
    · rw [h2] at hg'
      simp only [Value.ownBlock, Option.some.injEq] at hg'
      subst hg'
      rw [hz5] at hh
      simp at hh
  · have k10 : Fo (fun k => w.heap.size ≤ k) w (w5.setCell ⟨zb, 0, none⟩ v5) := ((Fo.ofKept a.kp _).trans (Fo.ofKept kB _)).trans (F.mono (fun k hk => by
      rcases hk with h | rfl
      · exact (hown k h).1
      · exact hz))
    exact Kept.ofBelow (k10.below (Nat.le_refl _) (fun k hk => hk)) []

set_option maxHeartbeats 2000000 in
set_option maxRecDepth 100000 in
theorem rrelnew_any (m : Rm w B q v st) (n : Int) :
    Calls Try.prog 14 #[.pointer (some ⟨q, 0, none⟩), .int .i64 n] w fun e w' => ∃ zb, e = .returned (.pointer (some ⟨zb, 0, none⟩)) ∧ Rst w' B q zb st (List.replicate (cl n) []) ∧ Kept w w' [] := by
  obtain ⟨c, hc⟩ : ∃ c, cl n = c := ⟨_, rfl⟩
  have hc4 := cl_le n
  rw [hc] at hc4 ⊢
  have hcn : ∀ i : Nat, i < c ↔ (i < 4 ∧ ((i : Int) < n ∨ i = 0)) := by
    intro i
    rw [← hc]; unfold cl
    split
    · omega
    · split <;> omega
  have HB := Lib.hid (show B ≤ w.heap.size by have := heap_lt m.hp; have := m.bp; omega)
  obtain ⟨i0, hi0, hz0, hz1, hzb⟩ := info_parts Try.infoHr
  have I := Lib.hid (And.intro hi0 (And.intro hz0 (And.intro hz1 hzb)))
  obtain ⟨W1, hW1⟩ : ∃ W1, W1 = w.alloc (.cells #[.slice none 0 0] 39) := ⟨_, rfl⟩
  obtain ⟨zb, hr⟩ : ∃ zb, zb = w.heap.size := ⟨_, rfl⟩
  have hk1 : Kept w W1 [] := by rw [hW1]; exact (Kept.refl w []).alloc _
  have ST : Hid (Mz w W1 B q zb v (.slice none 0 0) st [] 0) := Lib.hid ⟨m.keep hk1, fun i t h => by simp at h, fun i j t u h => by simp at h, rfl, rfl, by rw [hW1, hr]; exact heap_alloc_new w _, World.ownsRow_nil _ _ _ _, hk1⟩
  have HR := Lib.hid (Nat.le_of_eq hr.symm); have HCN := Lib.hid hcn
  clear m hi0 hz0 hz1 hzb hk1 hc hcn
  go_enter Try.func14, Try.ntmps14
  go_wp2_with fail
  rw [← hW1, ← hr]
  clear hW1 hr
  go_loopw [6] (fun t wr => ∃ (k : Nat) (zv : Value) (L : List Rq), t = .int .i64 k ∧ k ≤ c ∧ Mz w wr B q zb v zv st L k) (fun t _ => c - (intOf t).toNat)
  case atStart => exact ⟨0, _, [], rfl, Nat.zero_le _, ST.out⟩
  case round =>
    obtain ⟨k, zv, L, rfl, hk, hmk⟩ := hrel
    have MZ := Lib.hid hmk
    obtain ⟨sa, sc, hsv⟩ := ownsRow_shape hmk.hv
    subst hsv
    by_cases hlt : k < c
    · obtain ⟨hk4, hkn⟩ := (HCN.out k).1 hlt
      have x4 : (k : Int) < 4 := by omega
      have c0 : wr.cell? ⟨zb, 0, none⟩ = some (.slice sa k sc) := by rw [cell_of_row wr zb 0 _ _ _ hmk.hr]; rfl
      obtain ⟨wA, hwA⟩ : ∃ wA, wA = wr.alloc (.cells #[.pointer (some ⟨q, 0, none⟩), .slice none 0 0] 92) := ⟨_, rfl⟩
      obtain ⟨wB, hwB⟩ : ∃ wB, wB = wA.alloc (.cells #[.pointer (some ⟨wr.heap.size, 0, none⟩)] 89) := ⟨_, rfl⟩
      have HA := Lib.hid hwA; have HwB := Lib.hid hwB
      have kB : Kept wr wB [] := by rw [hwB, hwA]; exact ((Kept.refl wr []).alloc _).alloc _
      have XB := Lib.hid (ownsRow_fr hmk.hv (Fr.ofKept kB 0 []) (by simp))
      have hz : wA.heap.size = wr.heap.size + 1 := by rw [hwA]; simp
      have SB : Hid (Src Try.prog 1 37 (.slice (some ⟨wr.heap.size + 1, 0, none⟩) 1 1) 1 [.pointer (some ⟨wr.heap.size, 0, none⟩)] wB) := Lib.hid (by
        have := src_one Try.underlying37 wA (.pointer (some ⟨wr.heap.size, 0, none⟩)) rfl 89
        rw [hz] at this
        rw [hwB]; exact this)
      have BB := Lib.hid (Nat.le_trans hmk.kp.size kB.size)
      clear hmk hwA hwB kB hz
      by_cases hn : (k : Int) < n
      · go_wp2_with (at_builtin; refine wpList_append_all _ rfl (.tmp 26) (.tmp 30) 37 37 rfl w.heap.size 89 i0 _ 1 8 Try.underlying37 I.out.1 I.out.2.1 I.out.2.2.1 I.out.2.2.2 rfl (.slice sa k sc) k (rps L) rfl ?hown _ 1 [.pointer (some ⟨wr.heap.size, 0, none⟩)] rfl ?hsrc ?b1 ?b2 ?base ?next)
        case hown => rw [← HA.out, ← HwB.out]; exact XB.out
        case hsrc => rw [← HA.out, ← HwB.out]; exact SB.out
        case b1 => unfold maxLen; omega
        case b2 => omega
        case base => rw [← HA.out, ← HwB.out]; exact BB.out
        case next =>
          intro v5 w5 ho5 _ hg5 _
          rw [← HA.out, ← HwB.out] at hg5
          obtain ⟨c5, f5, nx⟩ := MZ.out.next HR.out HA.out HwB.out ho5 hg5
          have NX := Lib.hid nx
          obtain ⟨a5, d5, hs5⟩ := ownsRow_shape ho5
          clear nx ho5 hg5 c0
          subst hs5
          go_wp2
          go_roundw
          case rel => exact ⟨k + 1, _, _, by go_num, by omega, NX.out⟩
          case measure => simp [intOf]; omega
      · obtain rfl : k = 0 := by omega
        go_wp2_with (at_builtin; refine wpList_append_all _ rfl (.tmp 26) (.tmp 30) 37 37 rfl w.heap.size 89 i0 _ 1 8 Try.underlying37 I.out.1 I.out.2.1 I.out.2.2.1 I.out.2.2.2 rfl (.slice sa 0 sc) 0 (rps L) rfl ?hown _ 1 [.pointer (some ⟨wr.heap.size, 0, none⟩)] rfl ?hsrc ?b1 ?b2 ?base ?next)
        case hown => rw [← HA.out, ← HwB.out]; exact XB.out
        case hsrc => rw [← HA.out, ← HwB.out]; exact SB.out
        case b1 => unfold maxLen; omega
        case base => have := BB.out; have := HwB.out; have := HA.out; subst_vars; simpa using BB.out
        case next =>
          intro v5 w5 ho5 _ hg5 _
          rw [← HA.out, ← HwB.out] at hg5
          obtain ⟨c5, f5, nx⟩ := MZ.out.next HR.out HA.out HwB.out ho5 hg5
          have NX := Lib.hid nx
          obtain ⟨a5, d5, hs5⟩ := ownsRow_shape ho5
          clear nx ho5 hg5 c0
          subst hs5
          go_wp2
          go_roundw
          case rel => exact ⟨0 + 1, _, _, by go_num, by omega, NX.out⟩
          case measure => simp [intOf]; omega
    · obtain rfl : k = c := by omega
      have hno : ¬ ((k : Int) < 4) ∨ (¬ (k : Int) < n ∧ ¬ (k : Int) = 0) := by
        have := (HCN.out k).2
        by_cases h4 : k < 4
        · right
          refine ⟨fun h => hlt (this ⟨h4, .inl h⟩), fun h => hlt (this ⟨h4, .inr (by omega)⟩)⟩
        · left; omega
      have fin : Rst wr B q zb st (List.replicate k []) := ⟨v, _, L, ⟨hmk.rm, hmk.hs, hmk.dj, ⟨hmk.hr, by rw [hmk.ln]; exact ownsRow_low hmk.hv HB.out, Nat.le_trans HB.out HR.out⟩⟩, hmk.tb.symm⟩
      have FIN := Lib.hid (And.intro fin hmk.kp)
      clear fin hmk
      by_cases h4 : (k : Int) < 4
      · have x2 : ¬ (k : Int) < n := by omega
        have x3 : ((k : Int) == 0) = false := by rw [beq_eq_false_iff_ne]; omega
        go_wp2
        go_ret
        exact ⟨zb, rfl, FIN.out⟩
      · have x2 : ¬ (k : Int) < 4 := h4
        go_wp2
        go_ret
        exact ⟨zb, rfl, FIN.out⟩

variable {T : List Fl}

theorem rbegin_st (a : Rst w B q zb st T) (h1 : (opens st).length < 6) (h2 : st.length + 1 < 1048576) :
    Calls Try.prog 17 #[.pointer (some ⟨q, 0, none⟩)] w fun e w' => e = .returned (.tuple #[.int .i64 ((st.length : Int) + 1), .int .i64 0]) ∧ Rst w' B q zb (st ++ [1]) T ∧ Fy B tysR w w' := by
  obtain ⟨v, zv, L, a, rfl⟩ := a
  refine (rbegin_ok a.rm h1 h2).mono ?_
  rintro e w' ⟨rfl, v', m', f⟩
  exact ⟨rfl, a.man m' f⟩

theorem rbeginfull_st (a : Rst w B q zb st T) (hf : 6 ≤ (opens st).length ∨ st.length + 1 = 1048576) :
    Calls Try.prog 17 #[.pointer (some ⟨q, 0, none⟩)] w fun e w' => e = .returned (.tuple #[.int .i64 0, .int .i64 8]) ∧ Kept w w' [] := by
  obtain ⟨v, zv, L, a, rfl⟩ := a
  exact rbegin_full a.rm hf

theorem rend_st (a : Rst w B q zb st T) (x : Int) (hb : stAt st x = 1) :
    Calls Try.prog 20 #[.pointer (some ⟨q, 0, none⟩), .int .i64 x, .int .u8 2] w fun e w' => e = .returned (.int .i64 0) ∧ Rst w' B q zb (st.set (x.toNat - 1) 2) T ∧ Fy B tysR w w' := by
  obtain ⟨v, zv, L, a, rfl⟩ := a
  refine (rend_ok a.rm x 2 (by decide) hb).mono ?_
  rintro e w' ⟨rfl, m', f⟩
  exact ⟨rfl, a.man m' f⟩

theorem rendbad_st (a : Rst w B q zb st T) (x : Int) (hb : stAt st x ≠ 1) :
    Calls Try.prog 20 #[.pointer (some ⟨q, 0, none⟩), .int .i64 x, .int .u8 2] w fun e w' => e = .returned (.int .i64 7) ∧ w = w' := by
  obtain ⟨v, zv, L, a, rfl⟩ := a
  exact rend_bad a.rm x 2 hb

set_option maxRecDepth 20000 in
theorem rnow_st (a : Rst w B q zb st T) :
    Calls Try.prog 18 #[.pointer (some ⟨q, 0, none⟩)] w fun e w' => ∃ u c, e = .returned (.agg #[.int .i64 ((st.length : Int) + 1), .slice u (opens st).length c]) ∧ w'.ownsRow w.heap.size 2 1 (.slice u (opens st).length c) (opens st).length ((opens st).map encZ) ∧ Kept w w' [] := by
  obtain ⟨v, zv, L, a, rfl⟩ := a
  have h := a.rm
  obtain ⟨m, hm⟩ : ∃ m, (opens st).length = m := ⟨_, rfl⟩
  rw [hm]
  obtain ⟨W1, hW1⟩ : ∃ W1, W1 = w.alloc (.cells #[.int .i64 0, .slice none 0 0] 47) := ⟨_, rfl⟩
  have hk1 : Kept w W1 [] := by rw [hW1]; exact (Kept.refl w []).alloc _
  have K1 := Lib.hid hk1
  have hb1 : W1.heap[w.heap.size]? = some (.cells #[.int .i64 0, .slice none 0 0] 47 (0, 0)) := by rw [hW1]; exact heap_alloc_new w _
  have B1 := Lib.hid hb1
  obtain ⟨n, hn⟩ : ∃ n : Int, n = (st.length : Int) + 1 := ⟨_, rfl⟩
  rw [← hn]
  have c1 := Lib.hid (rnext_any (h.keep hk1))
  have c2 := Lib.hid (ropen_any (h.keep hk1))
  rw [← hn, hm] at *
  clear h a hb1 hk1 hn hm
  go_enter Try.func18, Try.ntmps18
  go_wp2_with fail
  rw [← hW1]
  have HZ := Lib.hid (show w.heap.size ≤ W1.heap.size by rw [hW1]; simp)
  clear hW1
  go_wp2_with fail
  refine c1.out.mono ?_
  rintro e w8 ⟨rfl, rfl⟩
  go_wp2_with fail
  refine c2.out.mono ?_
  rintro e w9 ⟨a9, c9, rfl, ho, k8⟩
  have o9 := ownsRow_low ho HZ.out
  have hb9 := k8.heap (by simp) B1.out
  obtain ⟨e0, e1, e2, e3⟩ := res_cells hb9
  have hb10 := heap_setCell_at hb9 0 (.int .i64 n)
  have hb11 := heap_setCell_at hb10 1 (.slice a9 m c9)
  have f9 : Fr w.heap.size [47] w9 ((w9.setCell ⟨w.heap.size, 0, none⟩ (.int .i64 n)).setCell ⟨w.heap.size, 1, none⟩ (.slice a9 m c9)) :=
    ((Fr.refl _ _ w9).setCell hb9 (.inr ⟨Nat.le_refl _, by simp⟩) 0 _).setCell hb10 (.inr ⟨Nat.le_refl _, by simp⟩) 1 _
  have o11 := ownsRow_fr o9 f9 (by decide)
  have k11 : Kept w ((w9.setCell ⟨w.heap.size, 0, none⟩ (.int .i64 n)).setCell ⟨w.heap.size, 1, none⟩ (.slice a9 m c9)) [] :=
    ((K1.out.trans k8 (by simp)).setCell (p := ⟨w.heap.size, 0, none⟩) (.inr (Nat.le_refl _)) _).setCell (p := ⟨w.heap.size, 1, none⟩) (.inr (Nat.le_refl _)) _
  obtain ⟨w11, hw11⟩ : ∃ w11, w11 = (w9.setCell ⟨w.heap.size, 0, none⟩ (.int .i64 n)).setCell ⟨w.heap.size, 1, none⟩ (.slice a9 m c9) := ⟨_, rfl⟩
  rw [← hw11] at hb11 o11 k11
  obtain ⟨d0, d1, _, _⟩ := res_cells (u := .int .i64 n) (v := .slice a9 m c9) (by simpa using hb11)
  have HW11 := Lib.hid hw11
  clear f9 hb9 hb10 hw11
  go_wp2_with fail
  rw [← HW11.out]
  exact bodyPost_ret (v := .agg #[.int .i64 n, .slice a9 m c9]) (by simp [results, Try.results18, go_sem, d0, d1]) rfl ⟨a9, c9, rfl, o11, k11⟩
end Go.Proofs.Ytdjhcdgehmpikaa
