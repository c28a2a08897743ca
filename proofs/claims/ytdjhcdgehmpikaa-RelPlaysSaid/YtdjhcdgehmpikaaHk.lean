/-
  Update, New, Get; rows (the rows of versions that are pointed to).
-/
import Derived.Test.YtdjhcdgehmpikaaHj
namespace Go.Proofs.Ytdjhcdgehmpikaa
open Go.RowKit Go.Maps

variable {w : World} {B p h b mb : Nat} {v : Value} {S : Int → Value} {st : List Nat} {ks : List Int} {F : Int → List Vr}

theorem row_head {w : World} {base n c : Nat} {a : Option Addr} {e : TypeId} {xs : List Value} (h : w.ownsRow base e 1 (.slice a n c) n xs) (hn : 0 < n) : ∃ g, a = some ⟨g, 0, none⟩ ∧ base ≤ g ∧ n ≤ c ∧ (∃ cur, w.heap[g]? = some (.cells cur e (0, 0))) ∧ ∀ i u, xs[i]? = some u → w.cell? ⟨g, i, none⟩ = some u := by
  rcases h.2 with ⟨hv, h0⟩ | ⟨g, cap, cur, hv, hbg, hg, hnc, hcm, hcs, htk⟩
  · omega
  · simp only [Value.slice.injEq] at hv
    obtain ⟨rfl, _, rfl⟩ := hv
    refine ⟨g, rfl, hbg, hnc, ⟨cur, hg⟩, fun i u hu => ?_⟩
    have := World.ownsRow.cells h (g := g) rfl i u hu
    simpa [Addr.add_lit] using this

theorem delL_length (st : List Nat) (V : Vw) (l : List Vr) : (delL st V l).2.length = l.length := by
  unfold delL
  split
  · split
    · rfl
    · split
      · rfl
      · split
        · rfl
        · exact dieAt_length _ _ _
  · rfl

set_option maxHeartbeats 1000000 in
set_option maxRecDepth 100000 in
theorem update_any (a : Sx w B p h b mb v S st ks F) (mx own : Int) (sl : Value) (opl : List Int) (hsl : RdI w sl opl) (ho : (Lit.int .i64 own).wf = true) (key : Int) (txt : ByteArray) (hk : (Lit.int .i64 key).wf = true) (hks : ks.length < 1000000) (hF : (F key).length < 1000000) :
    Calls Try.prog 57 #[.pointer (some ⟨h, 0, none⟩), vw mx sl own, .agg #[.int .i64 key, .string txt]] w fun e w' => e = .returned (.int .i64 (delL st ⟨mx, opl, own⟩ (F key)).1) ∧
      ∃ S', Sx w' B p h b mb v S' st (putK (delL st ⟨mx, opl, own⟩ (F key)).1 key ks) (putF (delL st ⟨mx, opl, own⟩ (F key)).1 key ⟨txt, own, 0⟩ (updF F key (delL st ⟨mx, opl, own⟩ (F key)).2)) ∧ Fo (foot p b v h mb S) w w' ∧ ∀ k, foot p b v h mb S' k → foot p b v h mb S k ∨ w.heap.size ≤ k := by
  have A := Lib.hid a; have HS := Lib.hid hsl; have HOW := Lib.hid ho; have HK := Lib.hid hk; have HKS := Lib.hid hks
  obtain ⟨sa, sc, rfl, _⟩ := hsl
  obtain ⟨W1, hW1⟩ : ∃ W1, W1 = w.alloc (.cells #[.int .i64 mx, .slice sa opl.length sc, .int .i64 own] 51) := ⟨_, rfl⟩
  obtain ⟨W2, hW2⟩ : ∃ W2, W2 = W1.alloc (.cells #[.int .i64 key, .string txt] 55) := ⟨_, rfl⟩
  have k1 : Kept w W1 [] := by rw [hW1]; exact (Kept.refl w []).alloc _
  have k12 : Kept W1 W2 [] := by rw [hW2]; exact (Kept.refl W1 []).alloc _
  have K2 := Lib.hid (k1.trans k12 (by simp))
  have hz : W1.heap.size = w.heap.size + 1 := by rw [hW1]; simp
  have g1 : W2.heap[w.heap.size]? = some (.cells #[.int .i64 mx, .slice sa opl.length sc, .int .i64 own] 51 (0, 0)) := k12.heap (by simp) (by rw [hW1]; exact heap_alloc_new w _)
  have g2 : W2.heap[w.heap.size + 1]? = some (.cells #[.int .i64 key, .string txt] 55 (0, 0)) := by rw [← hz, hW2]; exact heap_alloc_new W1 _
  obtain ⟨z0, z1, z2⟩ := three_at g1
  have y0 : W2.cell? ⟨w.heap.size + 1, 0, none⟩ = some (.int .i64 key) := by rw [cell_of_row _ _ 0 _ _ _ g2]; rfl
  have cd := delete_any (A.out.keep K2.out) mx own (.slice sa opl.length sc) opl (HS.out.keep K2.out) ho key hk
  obtain ⟨dl, hdl⟩ : ∃ dl, delL st ⟨mx, opl, own⟩ (F key) = dl := ⟨_, rfl⟩
  have hlen : dl.2.length < 1000000 := by rw [← hdl, delL_length]; exact hF
  rw [hdl] at cd ⊢
  obtain ⟨e, l⟩ := dl
  simp only at cd hlen ⊢
  have CD := Lib.hid cd
  have HL := Lib.hid hlen
  have G1 := Lib.hid g1; have G2 := Lib.hid g2
  -- the boxes stand: their types are not among those that turn
  unfold vw at CD ⊢
  have bxo : ∀ W3, Fo (foot p b v h mb S) W2 W3 → W3.heap[w.heap.size]? = some (.cells #[.int .i64 mx, .slice sa opl.length sc, .int .i64 own] 51 (0, 0)) ∧ W3.heap[w.heap.size + 1]? = some (.cells #[.int .i64 key, .string txt] 55 (0, 0)) := by
    intro W3 hf
    have lt : ∀ k, foot p b v h mb S k → k < w.heap.size := by
      intro k hk
      rcases hk with (rfl | rfl | h1) | rfl | rfl | ⟨q, h1⟩
      · exact heap_lt A.out.mg.hp
      · exact A.out.mg.hm.lt
      · exact (World.ownsRow.lt A.out.mg.hv k h1).2
      · exact heap_lt A.out.hp.hh
      · exact A.out.hp.hm.lt
      · exact (World.ownsRow.lt (A.out.hp.rows q) k h1).2
    exact ⟨hf.heap (fun hk => by have := lt _ hk; omega) G1.out, hf.heap (fun hk => by have := lt _ hk; omega) G2.out⟩
  have BXO := Lib.hid bxo
  clear a ho hk hks hF k1 k12 hz g1 g2 hdl hlen cd bxo
  by_cases he : e = 0
  · subst he
    rw [putK, putF, if_pos rfl, if_pos rfl]
    go_enter Try.func57, Try.ntmps57
    go_wp2_with fail
    rw [← hW1, ← hW2]
    clear hW1 hW2
    refine CD.out.mono ?_
    rintro e w3 ⟨rfl, R3, F3⟩
    obtain ⟨q1, q2⟩ := BXO.out w3 F3
    clear z0 z1 z2 y0
    obtain ⟨z0, z1, z2⟩ := three_at q1
    have y0 : w3.cell? ⟨w.heap.size + 1, 0, none⟩ = some (.int .i64 key) := by rw [cell_of_row _ _ 0 _ _ _ q2]; rfl
    have y1 : w3.cell? ⟨w.heap.size + 1, 1, none⟩ = some (.string txt) := by rw [cell_of_row _ _ 1 _ _ _ q2]; rfl
    have cb := Lib.hid (bear_any R3 key txt own HK.out HOW.out HKS.out (by rw [updF_same]; exact HL.out))
    have F3 := Lib.hid F3
    clear R3 q1 q2
    go_wp2_with fail
    refine cb.out.mono ?_
    rintro e w4 ⟨rfl, S', R4, F4, O4⟩
    have R4 := Lib.hid R4; have F4 := Lib.hid F4; have O4 := Lib.hid O4
    clear z0 z1 z2 y0 y1
    go_wp2
    go_ret
    exact ⟨rfl, S', R4.out, ((Fo.ofKept K2.out _).trans F3.out).trans F4.out, fun k hk => (O4.out k hk).imp id (fun h => Nat.le_trans (Nat.le_trans K2.out.size F3.out.size) h)⟩
  · rw [putK, putF, if_neg he, if_neg he]
    have he' : (e == 0) = false := by simpa using he
    go_enter Try.func57, Try.ntmps57
    go_wp2_with fail
    rw [← hW1, ← hW2]
    clear hW1 hW2
    refine CD.out.mono ?_
    rintro e w3 ⟨rfl, R3, F3⟩
    have R3 := Lib.hid R3; have F3 := Lib.hid F3
    clear z0 z1 z2 y0
    go_wp2
    go_ret
    exact ⟨rfl, S, R3.out, (Fo.ofKept K2.out _).trans F3.out, fun k hk => .inl hk⟩

/-- A heap over a manager. -/
theorem hnew_any {w : World} {B p b : Nat} {v : Value} {st : List Nat} (m : Mg w B p b v st) :
    Calls Try.prog 32 #[.pointer (some ⟨p, 0, none⟩)] w fun e w' => ∃ h mb, e = .returned (.pointer (some ⟨h, 0, none⟩)) ∧ Sx w' B p h b mb v (fun _ => .slice none 0 0) st [] (fun _ => []) ∧ Kept w w' [] ∧ w.heap.size ≤ h ∧ w.heap.size ≤ mb := by
  have hmm : ∀ w : World, (Instr.makeMap 114 none).run Try.prog w = .ok (.map (some w.heap.size)) (w.alloc (.map #[] 0)) := fun w => run_makeMap _ w
  have M := Lib.hid m
  have hB := m.size
  have hbl := m.hm.lt
  have K1 := Lib.hid (((Kept.refl w []).alloc (.map #[] 0)).alloc (.cells #[.pointer (some ⟨p, 0, none⟩), .map (some w.heap.size)] 116))
  have hz : (w.alloc (.map #[] 0)).heap.size = w.heap.size + 1 := by simp
  have g1 := heap_alloc_new (w.alloc (.map #[] 0)) (.cells #[.pointer (some ⟨p, 0, none⟩), .map (some w.heap.size)] 116)
  rw [hz] at g1
  have G1 := Lib.hid g1
  clear m g1
  go_enter Try.func32, Try.ntmps32
  go_wp2
  go_ret
  refine ⟨w.heap.size + 1, w.heap.size, by simp, ⟨M.out.keep K1.out, ?_, by omega⟩, K1.out, by omega, Nat.le_refl _⟩
  have m0 : Mpv (w.alloc (.map #[] 0)) w.heap.size 0 [] (fun _ => .slice none 0 0) := World.ownsMap_made w _ _ _
  exact { hh := G1.out, hm := m0.alloc _, srt := List.Pairwise.nil, wf := by simp, rows := fun k => World.ownsRow_nil _ _ _ _, nk := fun _ _ => rfl, apart := fun _ _ _ => .inl rfl, ok := by simp, bh := by omega, bm := hB }

/-- Rows as cells. -/
def rcl (R : List (Int × ByteArray)) : List Value := R.flatMap fun r => [.int .i64 r.1, .string r.2]
theorem rcl_length (R : List (Int × ByteArray)) : (rcl R).length = R.length * 2 := by
  induction R with
  | nil => rfl
  | cons a R ih => simp only [rcl, List.flatMap_cons, List.length_append, List.length_cons] at ih ⊢; rw [ih]; simp; omega
theorem rcl_append (R T : List (Int × ByteArray)) : rcl (R ++ T) = rcl R ++ rcl T := by simp [rcl]

theorem Try.infoRow : (Try.prog.info? 55).map (fun i => (i.zero, i.size, i.bytes)) = some (some (.agg #[.int .i64 0, .string ByteArray.empty]), 2, 24) := by kernel_rfl

/-- A literal of one element of several cells, at the list of a plain region's operations. -/
theorem wpList_buildSlice_one {P : Program} (w : World) {ops : Array Oper} {rest : List Oper} {o : Oper} {a : Act} {Q : Exit → Act → World → Prop} (hgd : o.guard = none) (t : TypeId) (x : Operand) (ho : o.op = .buildSlice t 1 #[(0, x)])
    (e : TypeId) (i : TypeInfo) (z : Value) (size : Nat) (ht : P.underlying t = some (.slice e)) (hi : P.info? e = some i) (hz : i.zero = some z) (hs : i.size = size) (h0 : 0 < size) (hb : size ≤ 16777216)
    (cells : List Value) (hx : a.eval x = .agg cells.toArray) (hl : cells.length = size)
    (h : wpList P ops Q rest (a.put o.dst (.slice (some ⟨w.heap.size, 0, none⟩) 1 1)) (w.alloc (.cells cells.toArray e))) :
    wpList P ops Q (o :: rest) a w := by
  refine wpList_plain hgd fun K hK => ?_
  have hr := run_buildSlice_one (P := P) w t e i z size ht hi hz hs h0 hb cells hl
  unfold Oper.wp execOp
  simp only [ho, List.map_toArray, List.map_cons, List.map_nil, hx, hr, Sem.run_bind, Sem.run_pure, Result.andThen_ok]
  exact hK _ _ h

set_option maxHeartbeats 1000000 in
set_option maxRecDepth 100000 in
theorem rows_any {w : World} {base : Nat} (sv : Value) (P : List (Nat × Nat)) (R : List (Int × ByteArray)) (hl : P.length = R.length) (ho : w.ownsRow base 120 1 sv P.length (P.map fun q => .pointer (some ⟨q.1, q.2, none⟩)))
    (hc : ∀ (i : Nat) (q : Nat × Nat) (r : Int × ByteArray), P[i]? = some q → R[i]? = some r → w.cell? ⟨q.1, q.2, none⟩ = some (.int .i64 r.1) ∧ w.cell? ⟨q.1, q.2 + 1, none⟩ = some (.string r.2)) (hlen : P.length ≤ 1000000) :
    Calls Try.prog 62 #[sv] w fun e w' => ∃ v', e = .returned v' ∧ w'.ownsRow w.heap.size 55 2 v' R.length (rcl R) ∧ Kept w w' [] := by
  obtain ⟨i0, hi0, hz0, hz1, hzb⟩ := info_parts Try.infoRow
  have I := Lib.hid (And.intro hi0 (And.intro hz0 (And.intro hz1 hzb)))
  have HC := Lib.hid hc; have HL := Lib.hid hl
  clear hc hi0 hz0 hz1 hzb
  rcases id ho.2 with ⟨rfl, h0⟩ | ⟨g, cap, cur, rfl, _, _, hnc, hcm, _, _⟩
  · have hR : R = [] := List.eq_nil_of_length_eq_zero (by omega)
    clear ho hl
    go_enter Try.func62, Try.ntmps62
    go_wp2
    go_loop [3, 8] (fun l t => l = .slice none 0 0 ∧ t = .int .i64 0) (fun _ _ => 0)
    case atStart => exact ⟨rfl, rfl⟩
    case round =>
      obtain ⟨rfl, rfl⟩ := hrel
      go_wp2
      go_ret
      exact ⟨.slice none 0 0, rfl, World.ownsRow_nil _ _ _ _, Kept.refl w []⟩
  · obtain ⟨n, hn⟩ : ∃ n, P.length = n := ⟨_, rfl⟩
    have HN := Lib.hid hn
    have HO := Lib.hid ho
    rw [hn] at hnc hlen ⊢
    clear ho hl hcm hnc hn
    go_enter Try.func62, Try.ntmps62
    go_wp2
    go_loopw [3, 5, 8] (fun l _ t wr => ∃ k : Nat, t = .int .i64 k ∧ k ≤ n ∧ wr.ownsRow w.heap.size 55 2 l k (rcl (R.take k)) ∧ Kept w wr []) (fun _ _ t _ => n - (intOf t).toNat)
    case atStart => exact ⟨0, rfl, Nat.zero_le _, World.ownsRow_nil _ _ _ _, Kept.refl w []⟩
    case round =>
      obtain ⟨k, rfl, hk, ho, hkw⟩ := hrel
      have O := Lib.hid ho; have K := Lib.hid hkw
      obtain ⟨al, cl, hal⟩ := ownsRow_shape ho
      clear ho hkw
      subst hal
      by_cases hlt : k < n
      · obtain ⟨q, hq⟩ : ∃ q, P[k]? = some q := ⟨_, List.getElem?_eq_getElem (by have := HN.out; omega)⟩
        obtain ⟨r, hr⟩ : ∃ r, R[k]? = some r := ⟨_, List.getElem?_eq_getElem (by have := HN.out; have := HL.out; omega)⟩
        obtain ⟨q1, q2⟩ := q
        obtain ⟨c0, c1⟩ := HC.out k _ r hq hr
        simp only at c0 c1
        have cp : w.cell? ⟨g, k, none⟩ = some (.pointer (some ⟨q1, q2, none⟩)) := by
          have := World.ownsRow.cells HO.out (g := g) rfl k (.pointer (some ⟨q1, q2, none⟩)) (by rw [List.getElem?_map, hq]; rfl)
          simpa [Addr.add_lit] using this
        have d0 := K.out.cell (p := ⟨q1, q2, none⟩) (by simp) c0
        have d1 := K.out.cell (p := ⟨q1, q2 + 1, none⟩) (by simp) c1
        have dp := K.out.cell (p := ⟨g, k, none⟩) (by simp) cp
        obtain ⟨rk, rt⟩ := r
        simp only at d0 d1
        have HR := Lib.hid hr
        have x1 : (k : Int) < (n : Int) := by omega
        obtain ⟨wB, hwB⟩ : ∃ wB, wB = wr.alloc (.cells #[.int .i64 rk, .string rt] 55) := ⟨_, rfl⟩
        have HwB := Lib.hid hwB
        have kB : Kept wr wB [] := by rw [hwB]; exact (Kept.refl wr []).alloc _
        have hb : wB.heap[wr.heap.size]? = some (.cells #[.int .i64 rk, .string rt] 55 (0, 0)) := by rw [hwB]; exact heap_alloc_new wr _
        have sB : Src Try.prog 2 59 (.slice (some ⟨wr.heap.size, 0, none⟩) 1 1) 1 [.int .i64 rk, .string rt] wB := Src.ofSlice wB Try.underlying59 ⟨wr.heap.size, 0, none⟩ 1 1 _ rfl (fun j u hu => by
          rw [Addr.add_lit, cell_of_row wB _ _ _ _ _ hb, Nat.zero_add]
          simpa using hu) (by intro u hu; simp at hu; rcases hu with rfl | rfl <;> rfl)
        have SB := Lib.hid sB; have KB := Lib.hid kB
        have oB := Lib.hid (ownsRow_fr O.out (Fr.ofKept kB 0 []) (by simp))
        have hbB : w.heap.size ≤ wB.heap.size := Nat.le_trans K.out.size kB.size
        clear hq hr c0 c1 cp hwB kB hb sB
        go_wp2_with (at_builtin; refine wpList_append_all _ rfl (.tmp 12) (.tmp 17) 59 59 rfl w.heap.size 55 i0 _ 2 24 Try.underlying59 I.out.1 I.out.2.1 I.out.2.2.1 I.out.2.2.2 rfl (.slice al k cl) k (rcl (R.take k)) rfl ?hown _ 1 [.int .i64 rk, .string rt] rfl ?hsrc ?b1 ?b2 ?base ?next)
        case hown => rw [← HwB.out]; exact oB.out
        case hsrc => rw [← HwB.out]; exact SB.out
        case b1 => unfold maxLen; omega
        case b2 => omega
        case base => rw [← HwB.out]; exact hbB
        case next =>
          intro v5 w5 ho5 _ hg5 _
          rw [← HwB.out] at hg5
          obtain ⟨a5, c5, hs5⟩ := ownsRow_shape ho5
          have e1 : rcl (R.take k) ++ [.int .i64 rk, .string rt] = rcl (R.take (k + 1)) := by
            rw [List.take_add_one, HR.out, rcl_append]; rfl
          rw [e1] at ho5
          have O5 := Lib.hid ho5
          have K5 := Lib.hid ((K.out.trans KB.out (by simp)).grown hg5 (fun j hj => .inr ((World.ownsRow.lt O.out j hj).1)))
          clear ho5 hg5 e1
          subst hs5
          go_wp2
          go_roundw
          case rel => exact ⟨k + 1, by go_num, by omega, O5.out, K5.out⟩
          case measure => simp [intOf]; omega
      · have x1 : ¬ (k : Int) < (n : Int) := by omega
        have R1 : Hid (rcl (R.take k) = rcl R ∧ k = R.length) := Lib.hid (by
          have := HN.out; have := HL.out
          exact ⟨by rw [List.take_of_length_le (by omega)], by omega⟩)
        go_wp2
        go_ret
        refine ⟨.slice al k cl, rfl, ?_, K.out⟩
        have := O.out
        rw [R1.out.1] at this
        rw [← R1.out.2]
        exact this

end Go.Proofs.Ytdjhcdgehmpikaa
