/-
  Both managers out of numbers, and the document's example of layer 12.
-/
import Derived.Test.YtojkandkhhjaaaaBj
namespace Go.Proofs.Ytojkandkhhjaaaa
set_option linter.unusedVariables false
open Go.RowKit Go.Maps

theorem rnew (w : World) {B : Nat} (hB : B ≤ w.heap.size) : Rm (w.alloc (.cells #[.slice none 0 0] 58)) B w.heap.size (.slice none 0 0) [] :=
  { hp := heap_alloc_new w _, hv := World.ownsRow_nil _ _ _ _, bp := hB, hl := by decide, hs := by simp }

theorem stAt_last (st : List Nat) (s : Nat) : stAt (st ++ [s]) ((st.length : Int) + 1) = s := by
  have := stAt_nat (st := st ++ [s]) (i := st.length) (by simp)
  rw [this]; simp

theorem Kept.fm {a w w' : World} {B : Nat} {ts : List TypeId} (h : Kept a w []) (f : Fm B ts w w') (hB : a.heap.size ≤ B) : Kept a w' [] :=
  ((Fm.ofKept h a.heap.size []).later f hB).kept (Nat.le_refl _)
theorem Kept.fr {a w w' : World} {B : Nat} {ts : List TypeId} (h : Kept a w []) (f : Fr B ts w w') (hB : a.heap.size ≤ B) : Kept a w' [] := h.fm (Fm.ofFr f) hB

/-- Both managers, of one st. -/
structure Two (a w : World) (p q : Nat) (st : List Nat) : Prop where
  m : ∃ b v, Mg w a.heap.size p b v st
  r : ∃ v, Rm w a.heap.size q v st
  k : Kept a w []

theorem Two.man {a w : World} {p q : Nat} {st : List Nat} (t : Two a w p q st) : Man w (.pointer (some ⟨p, 0, none⟩)) st ∧ RMan w (.pointer (some ⟨q, 0, none⟩)) st := by
  obtain ⟨b, v, h⟩ := t.m
  obtain ⟨u, r⟩ := t.r
  exact ⟨h.man, r.man⟩

theorem Two.full {a w : World} {p q : Nat} {st : List Nat} (t : Two a w p q st) (h : 6 ≤ (opens st).length) :
    Calls Try.prog 21 #[.pointer (some ⟨p, 0, none⟩)] w fun e w' => e = .returned (.tuple #[.int .i64 0, .int .i64 8]) ∧ w = w' := by
  obtain ⟨b, v, m⟩ := t.m
  exact mbegin_full m (.inl h)
theorem Two.rfull {a w : World} {p q : Nat} {st : List Nat} (t : Two a w p q st) (h : 6 ≤ (opens st).length) :
    Calls Try.prog 23 #[.pointer (some ⟨q, 0, none⟩)] w fun e w' => e = .returned (.tuple #[.int .i64 0, .int .i64 8]) ∧ Two a w' p q st := by
  obtain ⟨v, r⟩ := t.r
  refine (rbegin_full r (.inl h)).mono fun e w' ⟨h1, k⟩ => ⟨h1, ⟨?_, ⟨_, r.keep k⟩, t.k.trans k (by simp)⟩⟩
  obtain ⟨b, u, m⟩ := t.m
  exact ⟨b, u, m.keep k⟩

/-- The code's has gone ahead. -/
structure Ah (a w : World) (p q : Nat) (st st' : List Nat) : Prop where
  m : ∃ b v, Mg w a.heap.size p b v st'
  r : ∃ v, Rm w a.heap.size q v st
  k : Kept a w []

theorem Two.begin {a w : World} {p q : Nat} {st : List Nat} (t : Two a w p q st) (h : (opens st).length < 6) (hl : st.length < 1000000) :
    Calls Try.prog 21 #[.pointer (some ⟨p, 0, none⟩)] w fun e w' => e = .returned (.tuple #[.int .i64 ((st.length : Int) + 1), .int .i64 0]) ∧ Ah a w' p q st (st ++ [1]) := by
  obtain ⟨b, v, m⟩ := t.m
  obtain ⟨u, r⟩ := t.r
  refine (mbegin_ok m h (by omega)).mono fun e w' ⟨h1, v', m', f⟩ => ⟨h1, ⟨_, _, m'⟩, ⟨_, r.frame f (by decide) (by decide)⟩, t.k.fm f (Nat.le_refl _)⟩
theorem Ah.begin {a w : World} {p q : Nat} {st : List Nat} (t : Ah a w p q st (st ++ [1])) (h : (opens st).length < 6) (hl : st.length < 1000000) :
    Calls Try.prog 23 #[.pointer (some ⟨q, 0, none⟩)] w fun e w' => e = .returned (.tuple #[.int .i64 ((st.length : Int) + 1), .int .i64 0]) ∧ Two a w' p q (st ++ [1]) := by
  obtain ⟨b, v, m⟩ := t.m
  obtain ⟨u, r⟩ := t.r
  refine (rbegin_ok r h (by omega)).mono fun e w' ⟨h1, v', r', f⟩ => ⟨h1, ⟨_, _, m.frame f (by decide) (by decide)⟩, ⟨_, r'⟩, t.k.fr f (Nat.le_refl _)⟩

theorem wf_len {n : Nat} (h : n < 1000000) : (Lit.int .i64 ((n : Int) + 1)).wf = true := wf_i64 (by omega)

theorem Two.abort {a w : World} {p q : Nat} {st : List Nat} (t : Two a w p q (st ++ [1])) (hl : st.length < 1000000) :
    Calls Try.prog 24 #[.pointer (some ⟨p, 0, none⟩), .int .i64 ((st.length : Int) + 1)] w fun e w' => e = .returned (.int .i64 0) ∧ Ah a w' p q (st ++ [1]) (st ++ [3]) := by
  obtain ⟨b, v, m⟩ := t.m
  obtain ⟨u, r⟩ := t.r
  have e1 : (st ++ [1]).set (((st.length : Int) + 1).toNat - 1) 3 = st ++ [3] := by
    rw [show ((st.length : Int) + 1).toNat - 1 = st.length by omega]; simp
  refine (mabort_ok m _ (wf_len hl) (stAt_last _ _)).mono fun e w' ⟨h1, m', f⟩ => ⟨h1, ⟨_, _, e1 ▸ m'⟩, ⟨_, r.frame f (by decide) (by decide)⟩, t.k.fm f (Nat.le_refl _)⟩
theorem Two.commit {a w : World} {p q : Nat} {st : List Nat} (t : Two a w p q (st ++ [1])) (hl : st.length < 1000000) :
    Calls Try.prog 22 #[.pointer (some ⟨p, 0, none⟩), .int .i64 ((st.length : Int) + 1)] w fun e w' => e = .returned (.int .i64 0) ∧ Ah a w' p q (st ++ [1]) (st ++ [2]) := by
  obtain ⟨b, v, m⟩ := t.m
  obtain ⟨u, r⟩ := t.r
  have e1 : (st ++ [1]).set (((st.length : Int) + 1).toNat - 1) 2 = st ++ [2] := by
    rw [show ((st.length : Int) + 1).toNat - 1 = st.length by omega]; simp
  refine (mcommit_ok m _ (wf_len hl) (stAt_last _ _)).mono fun e w' ⟨h1, m', f⟩ => ⟨h1, ⟨_, _, e1 ▸ m'⟩, ⟨_, r.frame f (by decide) (by decide)⟩, t.k.fm f (Nat.le_refl _)⟩
theorem Ah.end {a w : World} {p q s : Nat} {st : List Nat} (t : Ah a w p q (st ++ [1]) (st ++ [s])) (hs : 1 ≤ s ∧ s ≤ 3) :
    Calls Try.prog 25 #[.pointer (some ⟨q, 0, none⟩), .int .i64 ((st.length : Int) + 1), .int .u8 (s : Int)] w fun e w' => e = .returned (.int .i64 0) ∧ Two a w' p q (st ++ [s]) := by
  obtain ⟨b, v, m⟩ := t.m
  obtain ⟨u, r⟩ := t.r
  have e1 : (st ++ [1]).set (((st.length : Int) + 1).toNat - 1) s = st ++ [s] := by
    rw [show ((st.length : Int) + 1).toNat - 1 = st.length by omega]; simp
  refine (rend_ok r _ s hs (stAt_last _ _)).mono fun e w' ⟨h1, r', f⟩ => ⟨h1, ⟨_, _, m.frame f (by decide) (by decide)⟩, ⟨_, e1 ▸ r'⟩, t.k.fr f (Nat.le_refl _)⟩

set_option maxHeartbeats 2000000 in
set_option maxRecDepth 100000 in
theorem managers_any (v : Value) (bs : List UInt8) (w : World) (hv : Rd w v bs) (hb : bs.length ≤ 30) :
    Calls Try.prog 10 #[v] w fun e w' => ∃ p q st, e = .returned (.tuple #[.pointer (some ⟨p, 0, none⟩), .pointer (some ⟨q, 0, none⟩)]) ∧ Two w w' p q st := by
  have HV := Lib.hid hv
  obtain ⟨oa, oc, rfl, _⟩ := hv
  go_enter Try.func10, Try.ntmps10
  go_wp2_with fail
  refine (mnew_any w).mono ?_
  rintro e w1 ⟨p, b, mv, rfl, m1, k1⟩
  have T1 : RowKit.Hid (Two w (w1.alloc (.cells #[.slice none 0 0] 58)) p w1.heap.size []) := Lib.hid ⟨⟨_, _, m1.keep ((Kept.refl _ []).alloc _)⟩, ⟨_, rnew w1 k1.size⟩, k1.alloc _⟩
  obtain ⟨W2, hW2⟩ : ∃ W2, W2 = w1.alloc (.cells #[.slice none 0 0] 58) := ⟨_, rfl⟩
  rw [← hW2] at T1
  generalize hq : w1.heap.size = q at T1
  clear m1 k1
  go_upto_region 2 with fail
  rw [← hW2]
  try rw [hq]
  clear hW2 hq
  go_wp2
  go_loopg [6] bs.length (fun kx s6 wr => ∃ (i : Nat) (st : List Nat), s6 = .int .i64 i ∧ i ≤ bs.length ∧ bs.length - i ≤ kx ∧ st.length ≤ i ∧ RowKit.Hid (Two w wr p q st))
  case atStart => exact ⟨0, [], rfl, by omega, by omega, by simp, T1.out⟩
  case round =>
    obtain ⟨i, st, rfl, hi, hkx, hst, T⟩ := hrel
    by_cases hlt : i < bs.length
    · have x1 : (i : Int) < (bs.length : Int) := by omega
      by_cases hf : 6 ≤ (opens st).length
      · have c1 := Lib.hid (T.out.full hf)
        have c2 := Lib.hid (T.out.rfull hf)
        clear hf
        go_wp2_with fail
        refine c1.out.mono ?_
        rintro e w2 ⟨rfl, rfl⟩
        go_wp2_with fail
        refine c2.out.mono ?_
        rintro e w3 ⟨rfl, t3⟩
        have T3 := Lib.hid t3
        clear t3
        go_wp2
        go_ret2
        exact ⟨_, _, _, rfl, T3.out⟩
      · have c1 := Lib.hid (T.out.begin (by omega) (by omega))
        have HF := Lib.hid (Nat.lt_of_not_le hf)
        clear hf
        go_wp2_with fail
        refine c1.out.mono ?_
        rintro e w2 ⟨rfl, t2⟩
        have c2 := Lib.hid (t2.begin HF.out (by omega))
        clear t2
        go_wp2_with fail
        refine c2.out.mono ?_
        rintro e w3 ⟨rfl, t3⟩
        have T2 := Lib.hid t3
        obtain ⟨a', c', e1, _, _, hla⟩ := HV.out
        simp only [Value.slice.injEq, true_and] at e1
        obtain ⟨rfl, rfl⟩ := e1
        obtain ⟨ob, oo, rfl, hcell⟩ := hla (by rintro rfl; simp at hlt)
        have d1 := t3.k.cell (p := ⟨ob, oo + i, none⟩) (by simp) (hcell i hlt)
        obtain ⟨b8, hb8⟩ : ∃ b : UInt8, b = bs.getD i 0 := ⟨_, rfl⟩
        rw [← hb8] at d1
        obtain ⟨y, hy⟩ : ∃ y : Nat, (b8.toNat : Int) % 8 = (y : Int) := ⟨b8.toNat % 8, by omega⟩
        clear hb8 hla hcell t3 c1
        by_cases h0 : y = 0
        · subst h0
          go_wp2
          go_roundg (bs.length - (i + 1))
          case measure => omega
          case rel => exact ⟨i + 1, st ++ [1], by go_num, by omega, by omega, by simp; omega, T2.out⟩
        have z0 : ((y : Int) == 0) = false := by rw [beq_eq_false_iff_ne]; omega
        by_cases h1 : y = 1
        · subst h1
          have ca := Lib.hid (T2.out.abort (by omega))
          clear T2
          go_wp2_with fail
          refine ca.out.mono ?_
          rintro e w4 ⟨rfl, t4⟩
          have cb := Lib.hid (t4.end (s := 3) (by decide))
          clear t4
          go_wp2_with fail
          refine cb.out.mono ?_
          rintro e w5 ⟨rfl, t5⟩
          have T5 := Lib.hid t5
          clear t5
          go_wp2
          go_roundg (bs.length - (i + 1))
          case measure => omega
          case rel => exact ⟨i + 1, st ++ [3], by go_num, by omega, by omega, by simp; omega, T5.out⟩
        have z1 : ((y : Int) == 1) = false := by rw [beq_eq_false_iff_ne]; omega
        clear h0 h1
        · have ca := Lib.hid (T2.out.commit (by omega))
          clear T2
          go_wp2_with fail
          refine ca.out.mono ?_
          rintro e w4 ⟨rfl, t4⟩
          have cb := Lib.hid (t4.end (s := 2) (by decide))
          clear t4
          go_wp2_with fail
          refine cb.out.mono ?_
          rintro e w5 ⟨rfl, t5⟩
          have T5 := Lib.hid t5
          clear t5
          go_wp2
          go_roundg (bs.length - (i + 1))
          case measure => omega
          case rel => exact ⟨i + 1, st ++ [2], by go_num, by omega, by omega, by simp; omega, T5.out⟩
    · have x1 : ¬ (i : Int) < (bs.length : Int) := by omega
      go_wp2
      go_ret2
      exact ⟨_, _, rfl, _, T.out⟩

theorem rdE_one {w : World} {z : Nat} {e : Ev} {fz : Nat × Nat} (h : w.heap[z]? = some (.cells e.cs 42 fz)) : RdE w (.slice (some ⟨z, 0, none⟩) 1 1) [e] := by
  refine ⟨_, _, rfl, Nat.le_refl _, by simp, fun _ => ⟨z, 0, rfl, fun k hk => ?_⟩⟩
  rw [cell_of_row _ _ _ _ _ _ h]
  simp [ecs]

/-- The example's event. -/
def ev5 : Ev := ⟨5, 1, ⟨#[]⟩, 0, 0, 0, 0, ⟨#[]⟩⟩
theorem seen_no : srt byId ([ev5].filter (told [2] 2 [] 2 [] ⟨#[]⟩)) = [] := by
  have : told [2] 2 [] 2 [] ⟨#[]⟩ ev5 = false := by simp [told, betw, seesB]
  simp only [List.filter_cons, List.filter_nil, this, Bool.false_eq_true, if_false]
  rfl
theorem seen_one : srt byId ([ev5].filter (told [2] 1 [] 2 [] ⟨#[]⟩)) = [ev5] := by
  have : told [2] 1 [] 2 [] ⟨#[]⟩ ev5 = true := by simp [told, betw, seesB, ev5, stAt, dueB_none]
  simp only [List.filter_cons, List.filter_nil, this, if_true]
  rfl

set_option maxHeartbeats 2000000 in
set_option maxRecDepth 100000 in
theorem seen_any (w : World) : Calls Try.prog 9 #[] w fun e w' => e = .returned (.bool true) ∧ Kept w w' [] := by
  go_enter Try.func9, Try.ntmps9
  go_wp2_with fail
  refine (mnew_any w).mono ?_
  rintro e w1 ⟨p, b, mv, rfl, m1, k1⟩
  have c2 := Lib.hid (mbegin_ok m1 (by decide) (by decide))
  have K1 := Lib.hid k1
  clear m1 k1
  go_wp2_with fail
  refine c2.out.mono ?_
  rintro e w2 ⟨rfl, v2, m2, f2⟩
  have c3 := Lib.hid (mcommit_ok m2 1 (by decide) (by decide))
  have K2 := Lib.hid (K1.out.fm f2 (Nat.le_refl _))
  clear m2 f2 c2
  go_wp2_with fail
  refine c3.out.mono ?_
  rintro e w3 ⟨rfl, m3, f3⟩
  have K3 := Lib.hid (K2.out.fm f3 (Nat.le_refl _))
  have M3 := Lib.hid (show Mg w3 w.heap.size p b v2 [2] from m3)
  clear m3 f3 c3
  obtain ⟨W4, hW4⟩ : ∃ W4, W4 = (((w3.alloc (.cells #[.int .i64 5, .int .i64 1, .string ⟨#[]⟩, .int .i64 0, .int .i64 0, .int .u8 0, .int .i64 0, .string ⟨#[]⟩] 42)).alloc (.cells #[.int .i64 1, .slice none 0 0] 31)).alloc (.cells #[.int .i64 2, .slice none 0 0] 31)) := ⟨_, rfl⟩
  have k4 : Kept w3 W4 [] := by rw [hW4]; exact (((Kept.refl _ []).alloc _).alloc _).alloc _
  have g0 : W4.heap[w3.heap.size]? = some (.cells ev5.cs 42 (0, 0)) := by rw [hW4]; exact (((Kept.refl _ []).alloc _).alloc _).heap (by simp) (heap_alloc_new w3 _)
  have z1 : (w3.alloc (.cells #[.int .i64 5, .int .i64 1, .string ⟨#[]⟩, .int .i64 0, .int .i64 0, .int .u8 0, .int .i64 0, .string ⟨#[]⟩] 42)).heap.size = w3.heap.size + 1 := by simp
  have g1 : W4.heap[w3.heap.size + 1]? = some (.cells #[.int .i64 1, .slice none 0 0] 31 (0, 0)) := by rw [hW4, ← z1]; exact ((Kept.refl _ []).alloc _).heap (by simp) (heap_alloc_new _ _)
  have g2 : W4.heap[w3.heap.size + 1 + 1]? = some (.cells #[.int .i64 2, .slice none 0 0] 31 (0, 0)) := by
    rw [hW4]
    have := heap_alloc_new ((w3.alloc (.cells #[.int .i64 5, .int .i64 1, .string ⟨#[]⟩, .int .i64 0, .int .i64 0, .int .u8 0, .int .i64 0, .string ⟨#[]⟩] 42)).alloc (.cells #[.int .i64 1, .slice none 0 0] 31)) (.cells #[.int .i64 2, .slice none 0 0] 31)
    simpa using this
  have HW := Lib.hid hW4
  have M4 := Lib.hid ((M3.out.keep k4).man)
  have K4 := Lib.hid (K3.out.trans k4 (by simp))
  have G0 := Lib.hid g0; have G1 := Lib.hid g1; have G2 := Lib.hid g2
  have hwf : ∀ e ∈ [ev5], (Lit.int .i64 e.tx).wf = true := by intro e he; simp at he; subst he; decide
  have HX := Lib.hid hwf
  have d1 := Lib.hid (bof_any ⟨#[]⟩ (rdE_one g0) (by decide) M4.out (RdI.nil W4) (RdI.nil W4) hwf : Calls _ _ #[_, _, .agg #[.int .i64 2, _], .agg #[.int .i64 2, _], _] _ _)
  rw [seen_no] at d1
  obtain ⟨y2, y3⟩ := two_cells g2
  clear hW4 k4 z1 g0 g1 g2 hwf
  go_upto_region 6 with fail
  rw [← HW.out]
  go_wp2_with fail
  refine d1.out.mono ?_
  rintro e w5 ⟨v5, rfl, o5, k5⟩
  obtain ⟨a5, c5, hv5⟩ := o5.shape
  subst hv5
  have K5 := Lib.hid k5
  clear o5 k5 y2 y3 d1
  obtain ⟨y0, y1⟩ := two_cells (K5.out.heap (by simp) G1.out)
  obtain ⟨y2, y3⟩ := two_cells (K5.out.heap (by simp) G2.out)
  have d2 := Lib.hid (bof_any ⟨#[]⟩ (rdE_one (K5.out.heap (by simp) G0.out)) (by decide) (M4.out.keep K5.out) (RdI.nil w5) (RdI.nil w5) HX.out : Calls _ _ #[_, _, .agg #[.int .i64 1, _], .agg #[.int .i64 2, _], _] _ _)
  rw [seen_one] at d2
  go_wp2_with fail
  refine d2.out.mono ?_
  rintro e w6 ⟨v6, rfl, o6, k6⟩
  obtain ⟨a6, c6, hv6⟩ := o6.shape
  subst hv6
  have K6 := Lib.hid k6
  clear o6 k6 y0 y1 y2 y3 d2
  go_wp2
  go_ret
  exact ⟨rfl, K4.out.trans (K5.out.trans K6.out (by simp)) (by simp)⟩

end Go.Proofs.Ytojkandkhhjaaaa
