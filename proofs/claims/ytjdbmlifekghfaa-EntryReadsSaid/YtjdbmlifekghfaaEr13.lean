/-
  Eod in one text.
-/
import Derived.Test.YtjdbmlifekghfaaEr12
namespace Go.Proofs.Ytjdbmlifekghfaa
set_option linter.unusedVariables false
open Go.RowKit

theorem Cap.made {w W1 : World} {B p : Nat} {v : Value} {l : List UInt8} (W : Wr wB w B p v l) {hl hw : Nat} {T : TypeId} {cs : Array Value} (k : Kept w W1 [])
    (b1 : W1.heap[hl]? = some (.cells cs T (0, 0))) (b2 : W1.heap[hw]? = some (.cells #[.pointer (some ⟨p, 0, none⟩)] 79 (0, 0))) (h1 : w.heap.size ≤ hl) (h2 : w.heap.size ≤ hw) :
    Wr wB W1 B p v l ∧ Wtp w W1 [p] v v ∧ Cap W1 p v hl hw T cs :=
  ⟨W.kept k (by simp) (by simp), ⟨k.mono (by simp), .inl rfl⟩, ⟨b1, b2, W.far h1, W.far h2⟩⟩

theorem manyL_take {α : Type} (f : α → List UInt8) (xs : List α) {k : Nat} {x : α} (h : xs[k]? = some x) : manyL f (xs.take (k + 1)) = manyL f (xs.take k) ++ f x := by
  obtain ⟨hk, rfl⟩ := List.getElem?_eq_some_iff.1 h
  rw [List.take_succ_eq_append_getElem hk, manyL_snoc]

theorem Ox.encL_len {o : Ox} (h : o.Right) : o.encL.length ≤ 100 := by
  have h1 := numL_ten (n := o.tb.toNat) (by have := h.tb; omega)
  have h2 := numL_ten (n := flag o.g) (by have := flag_le o.g; omega)
  have h3 := numL_ten (Lib.zigzag_lt h.key.1 h.key.2)
  have h4 := numL_ten (n := o.t.data.toList.length) (by have := h.t; rw [size_list]; omega)
  have h5 := h.t
  have h6 := size_list o.t
  simp only [Ox.encL, Ox.r2, Ox.r3, Ox.r4, textL, intL, List.length_append]
  omega
theorem Px.encL_len {x : Px} (h : x.Right) : x.encL.length ≤ 300 := by
  have h1 := numL_ten (n := x.sp.toNat) (by have := h.sp; omega)
  have h2 := Ev.encL_len h.ev h.ok
  have h3 := numL_ten (n := x.ev.encL.length) (by omega)
  simp only [Px.encL, textL, List.length_append]
  omega

theorem RdK.blk_lt {α : Type} {E : Enc α} {w : World} {v : Value} {xs : List α} (h : RdK E w v xs) {k : Nat} (hk : k < xs.length) : ∀ b, v.ownBlock = some b → b < w.heap.size := by
  obtain ⟨a, c, rfl, _, _, hl⟩ := h
  obtain ⟨b, o, rfl, hc⟩ := hl (by rintro rfl; simp at hk)
  intro b' hb
  simp only [Value.ownBlock, Option.some.injEq] at hb
  subst hb
  obtain ⟨u, hu⟩ := kcs_some E xs 0 (Nat.mul_pos (by omega) E.pos)
  have := hc 0 (Nat.mul_pos (by omega) E.pos)
  rw [hu] at this
  exact World.block_lt_of_cell? w _ this
theorem RdI.blk_lt {w : World} {v : Value} {xs : List Int} (h : RdI w v xs) {k : Nat} (hk : k < xs.length) : ∀ b, v.ownBlock = some b → b < w.heap.size := by
  obtain ⟨a, c, rfl, _, _, _, hl⟩ := h
  obtain ⟨b, o, rfl, hc⟩ := hl (by rintro rfl; simp at hk)
  intro b' hb
  simp only [Value.ownBlock, Option.some.injEq] at hb
  subst hb
  exact World.block_lt_of_cell? w _ (hc 0 (by omega))

set_option maxHeartbeats 1000000 in
set_option maxRecDepth 100000 in
theorem wops_any (B p : Nat) (v sv : Value) (l : List UInt8) (xs : List Ox) (w : World) (W : Wr wB w B p v l) (hB : B ≤ w.heap.size) (hs : RdK encO w sv xs) (hb : ∀ b, sv.ownBlock = some b → Far p v b) (hr : ∀ o ∈ xs, o.Right) (hn : xs.length ≤ 255) (hl' : l.length ≤ 10000000) :
    Calls Try.prog 50 #[.pointer (some ⟨p, 0, none⟩), sv] w fun e w' => e = .returned (.tuple #[]) ∧ ∃ v', Wr wB w' B p v' (l ++ opsL xs) ∧ Wtp w w' [p] v v' := by
  obtain ⟨sa, sc, rfl, _⟩ := id hs
  obtain ⟨W1, hW1⟩ : ∃ W1, W1 = (w.alloc (.cells #[.pointer (some ⟨p, 0, none⟩)] 79)).alloc (.cells #[.slice sa xs.length sc] 38) := ⟨_, rfl⟩
  have hz : (w.alloc (.cells #[.pointer (some ⟨p, 0, none⟩)] 79)).heap.size = w.heap.size + 1 := by simp
  have k1 : Kept w W1 [] := by rw [hW1]; exact ((Kept.refl w []).alloc _).alloc _
  have b1 : W1.heap[w.heap.size + 1]? = some (.cells #[.slice sa xs.length sc] 38 (0, 0)) := by rw [hW1, ← hz]; exact heap_alloc_new _ _
  have b2 : W1.heap[w.heap.size]? = some (.cells #[.pointer (some ⟨p, 0, none⟩)] 79 (0, 0)) := by rw [hW1]; exact ((Kept.refl _ []).alloc _).heap (by simp) (heap_alloc_new w _)
  obtain ⟨g1, s1, C1⟩ := Cap.made W k1 b1 b2 (by omega) (Nat.le_refl _)
  have c1 : W1.cell? ⟨w.heap.size, 0, none⟩ = some (.pointer (some ⟨p, 0, none⟩)) := cell_of_row _ _ 0 _ _ _ b2
  have c2 : W1.cell? ⟨w.heap.size + 1, 0, none⟩ = some (.slice sa xs.length sc) := cell_of_row _ _ 0 _ _ _ b1
  have HM : RowKit.Hid (Calls Try.prog 73 #[.pointer (some ⟨p, 0, none⟩), .int .i64 xs.length, .func (.func 74) #[] #[.pointer (some ⟨w.heap.size + 1, 0, none⟩), .pointer (some ⟨w.heap.size, 0, none⟩)]] W1 fun e w' => e = .returned (.tuple #[]) ∧ ∃ v', Wr wB w' B p v' (l ++ opsL xs) ∧ Wtp W1 w' [p] v v') := Lib.hid (by
    have h := wmany_any B p v l xs.length 74 #[.pointer (some ⟨w.heap.size + 1, 0, none⟩), .pointer (some ⟨w.heap.size, 0, none⟩)] (fun k => manyL Ox.encL (xs.take k)) W1 (fun _ _ => rfl) g1 (Nat.le_trans hB k1.size) hn (by omega) (by simp [manyL]) (fun k v' Z hk hg hs' => by
      obtain ⟨o, ho⟩ : ∃ o, xs[k]? = some o := ⟨_, List.getElem?_eq_getElem hk⟩
      have hm := manyL_len Ox.encL 100 (xs.take k) (fun y hy => Ox.encL_len (hr y (List.mem_of_mem_take hy)))
      have hten := numL_ten (n := xs.length) (by omega)
      have := wop_any B p (w.heap.size + 1) w.heap.size v' _ _ xs k o Z hg (Nat.le_trans (Nat.le_trans hB k1.size) hs'.1.size) (C1.on hs') (hs'.rdK (hs.keep k1) hb) ho (fun b hb' => hs'.far (hb b hb') (by
        have hlt := (RdK.blk_lt hs hk b hb')
        have := k1.size
        omega)) (hr o (List.mem_iff_getElem?.2 ⟨k, ho⟩)) (by rw [List.length_take] at hm; simp only [List.length_append]; omega)
      refine this.mono ?_
      rintro e w' ⟨rfl, v2, h1, h2⟩
      refine ⟨rfl, v2, ?_, h2⟩
      rw [manyL_take _ _ ho, ← List.append_assoc]
      exact h1)
    refine h.mono ?_
    rintro e w' ⟨rfl, v', h1, h2⟩
    refine ⟨rfl, v', ?_, h2⟩
    rw [opsL, ← List.append_assoc]
    simpa using h1)
  have S1 := Lib.hid s1
  clear s1 g1 C1 k1 b1 b2 hs hb hr hl' hz W hB hn
  go_enter Try.func50, Try.ntmps50
  go_upto_region 1 with fail
  rw [← hW1]
  clear hW1
  go_wp2_with fail
  refine HM.out.mono ?_
  rintro e w2 ⟨rfl, v2, g2, s2⟩
  have G2 := Lib.hid g2; have S2 := Lib.hid s2
  clear g2 s2 c1 c2
  go_wp2
  go_end0
  exact ⟨rfl, v2, G2.out, S1.out.trans S2.out⟩

set_option maxHeartbeats 1000000 in
set_option maxRecDepth 100000 in
theorem wevs_any (B p : Nat) (v sv : Value) (l : List UInt8) (xs : List Px) (w : World) (W : Wr wB w B p v l) (hB : B ≤ w.heap.size) (hs : RdK encP w sv xs) (hb : ∀ b, sv.ownBlock = some b → Far p v b) (hr : ∀ o ∈ xs, o.Right) (hn : xs.length ≤ 255) (hl' : l.length ≤ 10000000) :
    Calls Try.prog 51 #[.pointer (some ⟨p, 0, none⟩), sv] w fun e w' => e = .returned (.tuple #[]) ∧ ∃ v', Wr wB w' B p v' (l ++ evsL xs) ∧ Wtp w w' [p] v v' := by
  obtain ⟨sa, sc, rfl, _⟩ := id hs
  obtain ⟨W1, hW1⟩ : ∃ W1, W1 = (w.alloc (.cells #[.pointer (some ⟨p, 0, none⟩)] 79)).alloc (.cells #[.slice sa xs.length sc] 39) := ⟨_, rfl⟩
  have hz : (w.alloc (.cells #[.pointer (some ⟨p, 0, none⟩)] 79)).heap.size = w.heap.size + 1 := by simp
  have k1 : Kept w W1 [] := by rw [hW1]; exact ((Kept.refl w []).alloc _).alloc _
  have b1 : W1.heap[w.heap.size + 1]? = some (.cells #[.slice sa xs.length sc] 39 (0, 0)) := by rw [hW1, ← hz]; exact heap_alloc_new _ _
  have b2 : W1.heap[w.heap.size]? = some (.cells #[.pointer (some ⟨p, 0, none⟩)] 79 (0, 0)) := by rw [hW1]; exact ((Kept.refl _ []).alloc _).heap (by simp) (heap_alloc_new w _)
  obtain ⟨g1, s1, C1⟩ := Cap.made W k1 b1 b2 (by omega) (Nat.le_refl _)
  have c1 : W1.cell? ⟨w.heap.size, 0, none⟩ = some (.pointer (some ⟨p, 0, none⟩)) := cell_of_row _ _ 0 _ _ _ b2
  have c2 : W1.cell? ⟨w.heap.size + 1, 0, none⟩ = some (.slice sa xs.length sc) := cell_of_row _ _ 0 _ _ _ b1
  have HM : RowKit.Hid (Calls Try.prog 73 #[.pointer (some ⟨p, 0, none⟩), .int .i64 xs.length, .func (.func 76) #[] #[.pointer (some ⟨w.heap.size, 0, none⟩), .pointer (some ⟨w.heap.size + 1, 0, none⟩)]] W1 fun e w' => e = .returned (.tuple #[]) ∧ ∃ v', Wr wB w' B p v' (l ++ evsL xs) ∧ Wtp W1 w' [p] v v') := Lib.hid (by
    have h := wmany_any B p v l xs.length 76 #[.pointer (some ⟨w.heap.size, 0, none⟩), .pointer (some ⟨w.heap.size + 1, 0, none⟩)] (fun k => manyL Px.encL (xs.take k)) W1 (fun _ _ => rfl) g1 (Nat.le_trans hB k1.size) hn (by omega) (by simp [manyL]) (fun k v' Z hk hg hs' => by
      obtain ⟨o, ho⟩ : ∃ o, xs[k]? = some o := ⟨_, List.getElem?_eq_getElem hk⟩
      have hm := manyL_len Px.encL 300 (xs.take k) (fun y hy => Px.encL_len (hr y (List.mem_of_mem_take hy)))
      have hten := numL_ten (n := xs.length) (by omega)
      have := wev_any B p (w.heap.size + 1) w.heap.size v' _ _ xs k o Z hg (Nat.le_trans (Nat.le_trans hB k1.size) hs'.1.size) (C1.on hs') (hs'.rdK (hs.keep k1) hb) ho (fun b hb' => hs'.far (hb b hb') (by
        have hlt := (RdK.blk_lt hs hk b hb')
        have := k1.size
        omega)) (hr o (List.mem_iff_getElem?.2 ⟨k, ho⟩)) (by rw [List.length_take] at hm; simp only [List.length_append]; omega)
      refine this.mono ?_
      rintro e w' ⟨rfl, v2, h1, h2⟩
      refine ⟨rfl, v2, ?_, h2⟩
      rw [manyL_take _ _ ho, ← List.append_assoc]
      exact h1)
    refine h.mono ?_
    rintro e w' ⟨rfl, v', h1, h2⟩
    refine ⟨rfl, v', ?_, h2⟩
    rw [evsL, ← List.append_assoc]
    simpa using h1)
  have S1 := Lib.hid s1
  clear s1 g1 C1 k1 b1 b2 hs hb hr hl' hz W hB hn
  go_enter Try.func51, Try.ntmps51
  go_upto_region 1 with fail
  rw [← hW1]
  clear hW1
  go_wp2_with fail
  refine HM.out.mono ?_
  rintro e w2 ⟨rfl, v2, g2, s2⟩
  have G2 := Lib.hid g2; have S2 := Lib.hid s2
  clear g2 s2 c1 c2
  go_wp2
  go_end0
  exact ⟨rfl, v2, G2.out, S1.out.trans S2.out⟩

set_option maxHeartbeats 2000000 in
set_option maxRecDepth 100000 in
theorem wtick_any (B p : Nat) (v sv : Value) (tn tm ta : Int) (l : List UInt8) (xs : List Int) (w : World) (W : Wr wB w B p v l) (hB : B ≤ w.heap.size) (hs : RdI w sv xs) (hb : ∀ b, sv.ownBlock = some b → Far p v b) (hr : ∀ o ∈ xs, whole o) (hn : xs.length ≤ 255) (h1 : whole tn) (h2 : whole tm) (h3 : -9223372036854775808 ≤ ta ∧ ta ≤ 9223372036854775807) (hl' : l.length ≤ 10000000) :
    Calls Try.prog 53 #[.pointer (some ⟨p, 0, none⟩), .agg #[.int .i64 tn, .int .i64 tm, sv, .int .i64 ta]] w fun e w' => e = .returned (.tuple #[]) ∧ ∃ v', Wr wB w' B p v' (l ++ (wholeL tn ++ (wholeL tm ++ (openL xs ++ intL ta)))) ∧ Wtp w w' [p] v v' := by
  obtain ⟨sa, sc, rfl, _⟩ := id hs
  obtain ⟨W1, hW1⟩ : ∃ W1, W1 = (w.alloc (.cells #[.pointer (some ⟨p, 0, none⟩)] 79)).alloc (.cells #[.int .i64 tn, .int .i64 tm, .slice sa xs.length sc, .int .i64 ta] 33) := ⟨_, rfl⟩
  have hz : (w.alloc (.cells #[.pointer (some ⟨p, 0, none⟩)] 79)).heap.size = w.heap.size + 1 := by simp
  have k1 : Kept w W1 [] := by rw [hW1]; exact ((Kept.refl w []).alloc _).alloc _
  have b1 : W1.heap[w.heap.size + 1]? = some (.cells #[.int .i64 tn, .int .i64 tm, .slice sa xs.length sc, .int .i64 ta] 33 (0, 0)) := by rw [hW1, ← hz]; exact heap_alloc_new _ _
  have b2 : W1.heap[w.heap.size]? = some (.cells #[.pointer (some ⟨p, 0, none⟩)] 79 (0, 0)) := by rw [hW1]; exact ((Kept.refl _ []).alloc _).heap (by simp) (heap_alloc_new w _)
  obtain ⟨g1, s1, C1⟩ := Cap.made W k1 b1 b2 (by omega) (Nat.le_refl _)
  have CS : RowKit.Hid (∀ V v', Wtp W1 V [p] v v' → V.cell? ⟨w.heap.size, 0, none⟩ = some (.pointer (some ⟨p, 0, none⟩)) ∧ ∀ j, V.cell? ⟨w.heap.size + 1, j, none⟩ = (#[.int .i64 tn, .int .i64 tm, .slice sa xs.length sc, .int .i64 ta] : Array Value)[j]?) := Lib.hid (fun V v' s => ⟨cell_of_row V _ 0 _ _ _ (s.heap C1.fw C1.bw), fun j => cell_of_row V _ j _ _ _ (s.heap C1.fl C1.bl)⟩)
  have c1 := (CS.out _ _ (Wtp.refl W1 [p] v)).1
  have c2 : W1.cell? ⟨w.heap.size + 1, 0, none⟩ = some (.int .i64 tn) := (CS.out _ _ (Wtp.refl W1 [p] v)).2 0
  have c3 : W1.cell? ⟨w.heap.size + 1, 1, none⟩ = some (.int .i64 tm) := (CS.out _ _ (Wtp.refl W1 [p] v)).2 1
  have hsz := Nat.le_trans hB k1.size
  have HN : RowKit.Hid (Calls Try.prog 49 #[.pointer (some ⟨p, 0, none⟩), .slice (some ⟨W1.heap.size, 0, none⟩) 2 2] (W1.alloc (.cells #[.int .i64 tn, .int .i64 tm] 2)) fun e w' => e = .returned (.tuple #[]) ∧ ∃ v', Wr wB w' B p v' (l ++ (wholeL tn ++ wholeL tm)) ∧ Wtp W1 w' [p] v v') := Lib.hid (by
    have h := nums_any B p v l _ [tn, tm] _ (g1.alloc (.cells #[.int .i64 tn, .int .i64 tm] 2)) (by simp; omega) (rdI_new (heap_alloc_new W1 _) rfl rfl (by simp)) (by intro x hx; simp only [List.mem_cons, List.not_mem_nil, or_false] at hx; rcases hx with rfl | rfl; exact h1; exact h2) (by simp) (fun b hb' => by simp only [Value.ownBlock, Option.some.injEq] at hb'; subst hb'; exact g1.far (Nat.le_refl _)) (by omega)
    refine h.mono ?_
    rintro e w' ⟨rfl, v', h1, h2⟩
    exact ⟨rfl, v', by simpa [manyL] using h1, ((Wtp.refl _ _ _).alloc _).trans h2⟩)
  have hten := numL_ten (n := tn.toNat) (by have := h1.2; omega)
  have htem := numL_ten (n := tm.toNat) (by have := h2.2; omega)
  have hl2 : (l ++ (wholeL tn ++ wholeL tm)).length ≤ 10000020 := by simp only [List.length_append, wholeL]; omega
  have hop : (openL xs).length ≤ 2560 := by
    have hm := manyL_len wholeL 10 xs (fun y hy => numL_ten (by have := (hr y hy).2; omega))
    have := numL_ten (n := xs.length) (by omega)
    simp only [openL, List.length_append]; omega
  have HM : RowKit.Hid (∀ (V : World) (v1 : Value), Wtp W1 V [p] v v1 → Wr wB V B p v1 (l ++ (wholeL tn ++ wholeL tm)) → Calls Try.prog 73 #[.pointer (some ⟨p, 0, none⟩), .int .i64 xs.length, .func (.func 80) #[] #[.pointer (some ⟨w.heap.size, 0, none⟩), .pointer (some ⟨w.heap.size + 1, 0, none⟩)]] V fun e w' => e = .returned (.tuple #[]) ∧ ∃ v', Wr wB w' B p v' (l ++ (wholeL tn ++ wholeL tm) ++ openL xs) ∧ Wtp W1 w' [p] v v') := Lib.hid (fun V v1 sV gV => by
    have h := wmany_any B p v1 _ xs.length 80 #[.pointer (some ⟨w.heap.size, 0, none⟩), .pointer (some ⟨w.heap.size + 1, 0, none⟩)] (fun k => manyL wholeL (xs.take k)) V (fun _ _ => rfl) gV (Nat.le_trans hsz sV.1.size) hn (by omega) (by simp [manyL]) (fun k v' Z hk hg hs' => by
      have hs2 := sV.trans hs'
      have hm := manyL_len wholeL 10 (xs.take k) (fun y hy => numL_ten (by have := (hr y (List.mem_of_mem_take hy)).2; omega))
      have hten := numL_ten (n := xs.length) (by omega)
      have := wopen_any B p (w.heap.size + 1) w.heap.size v' _ (.int .i64 tn) (.int .i64 tm) (.int .i64 ta) _ xs k Z hg (Nat.le_trans hsz hs2.1.size) (C1.on hs2) (hs2.rdI (hs.keep k1) hb) hk (fun b hb' => hs2.far (hb b hb') (by
        have hlt := (RdI.blk_lt hs hk b hb')
        have := k1.size
        omega)) hr (by rw [List.length_take] at hm; simp only [List.length_append] at *; omega)
      refine this.mono ?_
      rintro e w' ⟨rfl, v2, h1, h2⟩
      refine ⟨rfl, v2, ?_, h2⟩
      rw [manyL_take _ _ (List.getElem?_eq_getElem hk), ← List.append_assoc]
      exact h1)
    refine h.mono ?_
    rintro e w' ⟨rfl, v', h1, h2⟩
    refine ⟨rfl, v', ?_, sV.trans h2⟩
    rw [openL, ← List.append_assoc]
    simpa using h1)
  have S1 := Lib.hid s1; have SZ := Lib.hid hsz; have H3 := Lib.hid h3; have HL := Lib.hid hl2; have HO := Lib.hid hop
  clear s1 g1 C1 k1 b1 b2 hs hb hr hl' hz hB hsz h1 h2 h3 hn hten htem hl2 hop W
  go_enter Try.func53, Try.ntmps53
  go_upto_region 1 with fail
  rw [← hW1]
  clear hW1
  go_wp2_with fail
  refine HN.out.mono ?_
  rintro e w2 ⟨rfl, v2, g2, s2⟩
  have G2 := Lib.hid g2; have S2 := Lib.hid s2
  clear g2 s2 c1 c2 c3
  have c1 := (CS.out _ _ S2.out).1
  have c2 : w2.cell? ⟨w.heap.size + 1, 2, none⟩ = some (.slice sa xs.length sc) := (CS.out _ _ S2.out).2 2
  go_wp2_with fail
  refine (HM.out _ _ S2.out G2.out).mono ?_
  rintro e w3 ⟨rfl, v3, g3, s3⟩
  have G3 := Lib.hid g3; have S3 := Lib.hid s3
  clear g3 s3 c1 c2
  have k8 := G3.out.drew
  have t8 := S3.out.drew
  have y2 : w3.drew.cell? ⟨w.heap.size, 0, none⟩ = some (.pointer (some ⟨p, 0, none⟩)) ∧ w3.drew.cell? ⟨w.heap.size + 1, 3, none⟩ = some (.int .i64 ta) := ⟨(CS.out _ _ t8).1, (CS.out _ _ t8).2 3⟩
  go_wp2_with fail
  go_region_held3 (fun V => V.cell? ⟨w.heap.size, 0, none⟩ = some (.pointer (some ⟨p, 0, none⟩)) ∧ V.cell? ⟨w.heap.size + 1, 3, none⟩ = some (.int .i64 ta)) (exact y2)
    (first
      | (go_at_call 52; refine (int_any B p v3 _ ta _ k8 ?_ H3.out ?_).mono ?_; (have := SZ.out; have := t8.1.size; omega); (have := HL.out; have := HO.out; rw [List.length_append]; omega); rintro e w4 ⟨rfl, v4, g4, s4⟩; have t4 := t8.trans s4; have y2 : w4.cell? ⟨w.heap.size, 0, none⟩ = some (.pointer (some ⟨p, 0, none⟩)) ∧ w4.cell? ⟨w.heap.size + 1, 3, none⟩ = some (.int .i64 ta) := ⟨(CS.out _ _ t4).1, (CS.out _ _ t4).2 3⟩))
  have G4 := Lib.hid g4; have S4 := Lib.hid t4
  clear g4 s4 t4 y2 k8 t8
  go_wp2
  go_end0
  exact ⟨rfl, v4, by simpa only [List.append_assoc] using G4.out, S1.out.trans S4.out⟩

end Go.Proofs.Ytjdbmlifekghfaa
