/-
  The contracts of code.Reader's methods.
-/
import Derived.Test.YtkpjbmcgfdophaaReader
namespace Go.Proofs.Ytkpjbmcgfdophaa
open Go.RowKit

/-- A reader at block r: its two fields hold v, whose bytes are l, and the first error e. -/
def Rr (w : World) (r : Nat) (v : Value) (e : Int) (l : List UInt8) : Prop :=
  w.heap[r]? = some (.cells #[v, .int .i64 e] 75 (0, 0)) ∧ Rd w v l ∧ ∀ b, v.ownBlock = some b → b ≠ r

theorem Rr.kept {w w' : World} {r : Nat} {v : Value} {e : Int} {l : List UInt8} {bs : List Nat} (h : Rr w r v e l) (hk : Kept w w' bs) (hr : r ∉ bs) (hb : ∀ b, v.ownBlock = some b → b ∉ bs) : Rr w' r v e l :=
  ⟨hk.heap hr h.1, h.2.1.kept hk hb, h.2.2⟩

theorem Rr.cells {w : World} {r : Nat} {v : Value} {e : Int} {l : List UInt8} (h : Rr w r v e l) :
    w.cell? ⟨r, 0, none⟩ = some v ∧ w.cell? ⟨r, 1, none⟩ = some (.int .i64 e) ∧ w.frozen? ⟨r, 0, none⟩ = false ∧ w.frozen? ⟨r, 1, none⟩ = false :=
  ⟨by simpa using cell_of_row w r 0 #[v, .int .i64 e] _ _ h.1, by simpa using cell_of_row w r 1 #[v, .int .i64 e] _ _ h.1, frozen_of_row w r 0 _ _ h.1, frozen_of_row w r 1 _ _ h.1⟩

set_option maxHeartbeats 400000 in
set_option maxRecDepth 100000 in
theorem new_any (v : Value) (l : List UInt8) (w : World) (h : Rd w v l) (hl : l.length ≤ 1099511627796) :
    Calls Try.prog 27 #[v] w fun e w' => ∃ r v', e = .returned (.pointer (some ⟨r, 0, none⟩)) ∧ Rr w' r v' 0 l ∧ w.heap.size ≤ r ∧ (∀ b, v'.ownBlock = some b → w.heap.size ≤ b) ∧ Kept w w' [] := by
  have H := Lib.hid h; clear h
  go_enter Try.func27, Try.ntmps27
  go_wp2_with fail
  refine (clone_any v l w H.out hl).mono ?_
  rintro e w1 ⟨v', rfl, ho, hk⟩
  obtain ⟨a2, n2, c2, hv2⟩ := ho.shape3
  have Ho := Lib.hid ho; have Hk := Lib.hid hk; clear ho hk
  subst hv2
  go_wp2
  go_ret
  have hs := Hk.out.size
  refine ⟨w1.heap.size, _, rfl, ⟨heap_alloc_new w1 _, (Ho.out.rd).kept (((Kept.refl w1 []).alloc _)) (by simp), ?_⟩, hs, fun b hb => (Ho.out.lt b hb).1, Hk.out.alloc _⟩
  intro b hb
  have := (Ho.out.lt b hb).2
  omega

set_option maxHeartbeats 400000 in
theorem error_any (r : Nat) (v : Value) (e : Int) (l : List UInt8) (w : World) (h : Rr w r v e l) :
    Calls Try.prog 40 #[.pointer (some ⟨r, 0, none⟩)] w fun en w' => en = .returned (.int .i64 e) ∧ w = w' := by
  obtain ⟨c0, c1, f0, f1⟩ := h.cells
  clear h
  go_enter Try.func40, Try.ntmps40
  go_wp2
  go_ret
  exact ⟨rfl, rfl⟩

set_option maxHeartbeats 400000 in
theorem left_any (r : Nat) (v : Value) (e : Int) (l : List UInt8) (w : World) (h : Rr w r v e l) :
    Calls Try.prog 45 #[.pointer (some ⟨r, 0, none⟩)] w fun en w' => en = .returned (.int .i64 l.length) ∧ w = w' := by
  obtain ⟨c0, c1, f0, f1⟩ := h.cells
  obtain ⟨a, c, rfl, _⟩ := h.2.1
  clear h
  go_enter Try.func45, Try.ntmps45
  go_wp2
  go_ret
  exact ⟨rfl, rfl⟩

set_option maxHeartbeats 400000 in
theorem fail_any (r : Nat) (v : Value) (e e' : Int) (l : List UInt8) (w : World) (h : Rr w r v e l) :
    Calls Try.prog 41 #[.pointer (some ⟨r, 0, none⟩), .int .i64 e'] w fun en w' => en = .returned (.tuple #[]) ∧ Rr w' r (.slice none 0 0) e' [] ∧ Kept w w' [r] := by
  obtain ⟨c0, c1, f0, f1⟩ := h.cells
  have H := Lib.hid h; clear h
  go_enter Try.func41, Try.ntmps41
  go_wp2
  go_end0
  refine ⟨rfl, ⟨?_, Rd.nil _, by simp [Value.ownBlock]⟩, ((Kept.refl w [r]).setCell (.inl (by simp)) _).setCell (.inl (by simp)) _⟩
  have h1 := heap_setCell_at H.out.1 0 (.slice none 0 0)
  simpa using heap_setCell_at h1 1 (.int .i64 e')

/-- The reader's slice is cut at s. -/
theorem Rr.cut {w : World} {r : Nat} {v : Value} {e : Int} {l : List UInt8} (h : Rr w r v e l) {b o c : Nat} (hv : v = .slice (some ⟨b, o, none⟩) l.length c)
    (hcell : ∀ i, i < l.length → w.cell? ⟨b, o + i, none⟩ = some (.int .u8 (l.getD i 0).toNat)) (s o' n' c' : Nat) (hn : n' = l.length - s) (hc : n' ≤ c') (ho : s < l.length → o' = o + s) :
    Rr (w.setCell ⟨r, 0, none⟩ (.slice (some ⟨b, o', none⟩) n' c')) r (.slice (some ⟨b, o', none⟩) n' c') e (l.drop s) ∧
      Kept w (w.setCell ⟨r, 0, none⟩ (.slice (some ⟨b, o', none⟩) n' c')) [r] ∧ (∀ x, (Value.slice (some ⟨b, o', none⟩) n' c').ownBlock = some x → v.ownBlock = some x) := by
  have hbr : b ≠ r := h.2.2 b (by rw [hv]; rfl)
  have hk : Kept w (w.setCell ⟨r, 0, none⟩ (.slice (some ⟨b, o', none⟩) n' c')) [r] := (Kept.refl w [r]).setCell (.inl (by simp)) _
  refine ⟨⟨by simpa using heap_setCell_at h.1 0 (.slice (some ⟨b, o', none⟩) n' c'), ⟨some ⟨b, o', none⟩, c', ?_, ?_, by simp, ?_⟩, ?_⟩, hk, ?_⟩
  · rw [List.length_drop, hn]
  · rw [List.length_drop, ← hn]; exact hc
  · intro hne
    have hs : s < l.length := by
      rcases Nat.lt_or_ge s l.length with h1 | h1
      · exact h1
      · exact absurd (List.drop_of_length_le h1) hne
    refine ⟨b, o', rfl, fun i hi => ?_⟩
    rw [List.length_drop] at hi
    have h1 := hk.cell (p := ⟨b, o + (s + i), none⟩) (by simpa using hbr) (hcell (s + i) (by omega))
    obtain rfl := ho hs
    rw [Nat.add_assoc, h1]
    simp [List.getD, show s + i < l.length by omega]
  · intro x hx
    simp [Value.ownBlock] at hx
    omega
  · intro x hx
    rw [hv]
    simpa [Value.ownBlock] using hx

theorem ret_u64 {a b : Int} (h : a = b) : Ending.returned (.int .u64 a) = .returned (.int .u64 b) := by rw [h]
theorem ret_i64 {a b : Int} (h : a = b) : Ending.returned (.int .i64 a) = .returned (.int .i64 b) := by rw [h]

set_option maxHeartbeats 400000 in
set_option maxRecDepth 100000 in
theorem rnum_any (r : Nat) (v : Value) (e : Int) (l : List UInt8) (w : World) (h : Rr w r v e l) (hl : l.length ≤ 1099511627796) :
    Calls Try.prog 39 #[.pointer (some ⟨r, 0, none⟩)] w fun en w' => en = .returned (.int .u64 (rNum e l).1) ∧ ∃ v', Rr w' r v' (rNum e l).2.2 (rNum e l).2.1 ∧ Kept w w' [r] ∧ (∀ b, v'.ownBlock = some b → v.ownBlock = some b) := by
  obtain ⟨c0, c1, f0, f1⟩ := h.cells
  have H := Lib.hid h; clear h
  by_cases he : e = 0
  · subst he
    by_cases hr : (rdN l).2.2 = 0
    · obtain ⟨hp, hs, hx⟩ := rdN_ok l hr
      have hrn : rNum 0 l = ((rdN l).1, l.drop (rdN l).2.1, 0) := by rw [rNum, if_pos rfl, if_pos hr]
      obtain ⟨a, c, hv, hc, hna, hcell⟩ := H.out.2.1
      obtain ⟨b, o, rfl, hcell2⟩ := hcell (by rintro rfl; simp at hs; omega)
      obtain ⟨x, hX⟩ : ∃ x, x = (rdN l).1 := ⟨_, rfl⟩
      obtain ⟨s, hS⟩ : ∃ s, s = (rdN l).2.1 := ⟨_, rfl⟩
      rw [← hS] at hp hs
      rw [← hX] at hx
      have Hrn := Lib.hid hrn
      have Hf := Lib.hid (first_any v l w H.out.2.1 hl)
      have HX := Lib.hid hX; have HS := Lib.hid hS; have Hr := Lib.hid hr; have Hcell := Lib.hid hcell2; have Hv := Lib.hid hv
      rw [hv] at c0
      clear hrn hX hS hr hcell hcell2 hv hna
      by_cases hcs : c = s
      · subst hcs
        go_enter Try.func39, Try.ntmps39
        go_wp2_with fail
        refine (error_any r v 0 l w H.out).mono ?_
        rintro en w1 ⟨rfl, rfl⟩
        go_wp2_with fail
        rw [← Hv.out]
        refine Hf.out.mono ?_
        rintro en w1 ⟨rfl, rfl⟩
        rw [← HX.out, ← HS.out, Hr.out]
        go_wp2
        go_ret
        obtain ⟨q1, q2, q3⟩ := H.out.cut Hv.out Hcell.out c o 0 0 (by omega) (by omega) (by omega)
        rw [Hrn.out]
        exact ⟨ret_u64 (by rw [HX.out]), _, by rw [← HS.out]; exact q1, q2, q3⟩
      · have hcs' : (s : Int) < (c : Int) := by omega
        go_enter Try.func39, Try.ntmps39
        go_wp2_with fail
        refine (error_any r v 0 l w H.out).mono ?_
        rintro en w1 ⟨rfl, rfl⟩
        go_wp2_with fail
        rw [← Hv.out]
        refine Hf.out.mono ?_
        rintro en w1 ⟨rfl, rfl⟩
        rw [← HX.out, ← HS.out, Hr.out]
        go_wp2
        go_ret
        obtain ⟨q1, q2, q3⟩ := H.out.cut Hv.out Hcell.out s (o + s) (l.length - s) (c - s) rfl (by omega) (fun _ => rfl)
        rw [Hrn.out]
        exact ⟨ret_u64 (by rw [HX.out]), _, by rw [← HS.out]; exact q1, q2, q3⟩
    · have hrn : rNum 0 l = (0, [], (rdN l).2.2) := by rw [rNum, if_pos rfl, if_neg hr]
      obtain ⟨x, hx⟩ : ∃ x, x = (rdN l).2.2 := ⟨_, rfl⟩
      have hx0 : (x != 0) = true := by rw [hx]; simpa using hr
      have Hf := Lib.hid (first_any v l w H.out.2.1 hl)
      have Hx := Lib.hid hx; have Hrn := Lib.hid hrn
      clear hrn hx hr
      go_enter Try.func39, Try.ntmps39
      go_wp2_with fail
      refine (error_any r v 0 l w H.out).mono ?_
      rintro en w1 ⟨rfl, rfl⟩
      go_wp2_with fail
      refine Hf.out.mono ?_
      rintro en w1 ⟨rfl, rfl⟩
      rw [← Hx.out]
      go_wp2_with fail
      refine (fail_any r v 0 x l w H.out).mono ?_
      rintro en w1 ⟨rfl, q1, q2⟩
      have Q1 := Lib.hid q1; have Q2 := Lib.hid q2; clear q1 q2
      go_wp2
      go_ret
      rw [Hrn.out]
      exact ⟨rfl, _, by rw [← Hx.out]; exact Q1.out, Q2.out, by simp [Value.ownBlock]⟩
  · have hrn : rNum e l = (0, l, e) := by rw [rNum, if_neg he]
    have hx0 : (e != 0) = true := by simpa using he
    have Hrn := Lib.hid hrn
    clear hrn he
    go_enter Try.func39, Try.ntmps39
    go_wp2_with fail
    refine (error_any r v e l w H.out).mono ?_
    rintro en w1 ⟨rfl, rfl⟩
    go_wp2
    go_ret
    rw [Hrn.out]
    exact ⟨rfl, v, H.out, Kept.refl _ _, fun _ h => h⟩

set_option maxHeartbeats 400000 in
theorem end_any (r : Nat) (v : Value) (e : Int) (l : List UInt8) (w : World) (h : Rr w r v e l) (hl : l.length ≤ 1099511627796) :
    Calls Try.prog 42 #[.pointer (some ⟨r, 0, none⟩)] w fun en w' => en = .returned (.int .i64 (rEnd e l)) ∧ w = w' := by
  have H := Lib.hid h; clear h
  by_cases he : e = 0
  · subst he
    by_cases hne : l = []
    · subst hne
      go_enter Try.func42, Try.ntmps42
      go_wp2_with (first | (go_at_call 40; refine (error_any r v 0 [] w H.out).mono ?_; rintro en w1 ⟨rfl, rfl⟩) | (go_at_call 45; refine (left_any r v 0 [] w H.out).mono ?_; rintro en w1 ⟨rfl, rfl⟩))
      go_ret
      exact ⟨rfl, rfl⟩
    · have hp : (0 : Int) < (l.length : Int) := by have := List.length_pos_iff.2 hne; omega
      have Hx := Lib.hid hne; clear hne
      go_enter Try.func42, Try.ntmps42
      go_wp2_with (first | (go_at_call 40; refine (error_any r v 0 l w H.out).mono ?_; rintro en w1 ⟨rfl, rfl⟩) | (go_at_call 45; refine (left_any r v 0 l w H.out).mono ?_; rintro en w1 ⟨rfl, rfl⟩))
      go_ret
      exact ⟨ret_i64 (by rw [rEnd, if_pos rfl, if_neg Hx.out]), rfl⟩
  · have hx0 : (e != 0) = true := by simpa using he
    have He := Lib.hid he; clear he
    go_enter Try.func42, Try.ntmps42
    go_wp2_with (go_at_call 40; refine (error_any r v e l w H.out).mono ?_; rintro en w1 ⟨rfl, rfl⟩)
    go_ret
    exact ⟨ret_i64 (by rw [rEnd, if_neg He.out]), rfl⟩

end Go.Proofs.Ytkpjbmcgfdophaa
