/-
  A slice of items that came in; the contracts of carrierlaw02.small and carrierlaw02.laid.
-/
import Derived.Test.YtfmljoekfbnpiaaLaws
import Derived.Test.YtfmljoekfbnpiaaItems
import Derived.Deep.Slices
import Derived.Deep.Fields
namespace Go.Proofs.Ytfmljoekfbnpiaa
open Go.ChangeShapes Go.WideShapes Go.ChangeAt Go.RowKit

/-- What the walk is told of a slice of items that came in: nil; or a row of items, three cells each. -/
def IsItems (w : World) (a : Option Addr) (len cap : Nat) (f : Nat → Nat × Nat × ByteArray) : Prop :=
  (a = none ∧ len = 0 ∧ cap = 0) ∨ ∃ x, a = some x ∧ len ≤ cap ∧ cap ≤ maxLen ∧ ∀ i, i < len →
    w.cell? (x.add (i * 3 + 0)) = some (.int .u8 ((f i).1 : Int)) ∧ w.cell? (x.add (i * 3 + 1)) = some (.int .u64 ((f i).2.1 : Int)) ∧ w.cell? (x.add (i * 3 + 2)) = some (.string (f i).2.2) ∧
      (f i).1 < 256 ∧ (f i).2.1 < 18446744073709551616 ∧ (f i).2.2.size ≤ maxLen

theorem items_open {H : Type} {enc : TypeId × Value → H} {w : World} {base : Nat} {spare : Nat → Bool} {held : Bool} {fuel : Nat} {a : Option Addr} {len cap : Nat} {x : DataW H × List MemPlace}
    (h : DataW.trod enc Try.prog w base spare held fuel 22 [.slice a len cap] = some x) : ∃ f, IsItems w a len cap f := by
  have hC : Try.prog.cellsOf 32 = 3 := by kernel_rfl
  rcases Go.Deep.open_slice Try.underlying22 h with ⟨hcs, _⟩ | ⟨b, l, c, m, n, D, Pl, hcs, _, hl, hm, hmm, _, hel⟩
  · simp at hcs
    obtain ⟨rfl, rfl, rfl⟩ := hcs
    exact ⟨fun _ => (0, 0, ⟨#[]⟩), .inl ⟨rfl, rfl, rfl⟩⟩
  · simp at hcs
    obtain ⟨rfl, rfl, rfl⟩ := hcs
    have hex : ∀ i, i < len → ∃ t : Nat × Nat × ByteArray, w.cell? (b.add (i * 3 + 0)) = some (.int .u8 (t.1 : Int)) ∧ w.cell? (b.add (i * 3 + 1)) = some (.int .u64 (t.2.1 : Int)) ∧ w.cell? (b.add (i * 3 + 2)) = some (.string t.2.2) ∧ t.1 < 256 ∧ t.2.1 < 18446744073709551616 ∧ t.2.2.size ≤ maxLen := by
      intro i hi
      obtain ⟨cs, hc, ht⟩ := hel i (by rw [hmm]; split <;> omega)
      rw [hC] at hc
      obtain ⟨_, hcl, hat⟩ := World.cells?_some hc
      obtain ⟨ys, k, _, _, _, hyl, hf⟩ := DataW.trod_struct Try.underlying32 ht
      match cs, hcl, ys, hyl with
      | [c0, c1, c2], _, [y0, y1, y2], _ =>
        have e0 : Try.prog.cellsOf 5 = 1 := by kernel_rfl
        have e1 : Try.prog.cellsOf 30 = 1 := by kernel_rfl
        have e2 : Try.prog.cellsOf 9 = 1 := by kernel_rfl
        have h0 : DataW.trod enc Try.prog w base spare held k 5 [c0] = some y0 := by have := hf 0 _ rfl; simpa [e0] using this
        have h1 : DataW.trod enc Try.prog w base spare held k 30 [c1] = some y1 := by have := hf 1 _ rfl; simpa [e1] using this
        have h2 : DataW.trod enc Try.prog w base spare held k 9 [c2] = some y2 := by have := hf 2 _ rfl; simpa [e2] using this
        obtain ⟨n0, q0, _, w0⟩ := DataW.trod_int Try.underlying5 h0
        obtain ⟨n1, q1, _, w1⟩ := DataW.trod_int Try.underlying30 h1
        obtain ⟨s, q2, _, w2⟩ := DataW.trod_string Try.underlying9 h2
        have b0 := bounds_u8 w0
        have b1 := bounds_u64 w1
        simp at q0 q1 q2
        subst q0 q1 q2
        refine ⟨(n0.toNat, n1.toNat, s), ?_, ?_, ?_, by simp only; omega, by simp only; omega, w2⟩
        · have := hat 0 (by decide)
          rw [Go.Deep.add_add] at this
          rw [this]
          simp
          omega
        · have := hat 1 (by decide)
          rw [Go.Deep.add_add] at this
          rw [this]
          simp
          omega
        · have := hat 2 (by decide)
          rw [Go.Deep.add_add] at this
          rw [this]
          simp
    obtain ⟨f, hf⟩ := Go.Deep.choose_lt hex
    exact ⟨f, .inr ⟨b, rfl, hl, hm, hf⟩⟩

/-- One item's cells. -/
theorem items_at {w : World} {a : Option Addr} {len cap : Nat} {f : Nat → Nat × Nat × ByteArray} (h : IsItems w a len cap f) (i : Nat) (hi : i < len) :
    ∃ b o, a = some ⟨b, o, none⟩ ∧ w.cell? ⟨b, o + i * 3, none⟩ = some (.int .u8 ((f i).1 : Int)) ∧ w.cell? ⟨b, o + i * 3 + 1, none⟩ = some (.int .u64 ((f i).2.1 : Int)) ∧ w.cell? ⟨b, o + i * 3 + 2, none⟩ = some (.string (f i).2.2) ∧
      (f i).1 < 256 ∧ (f i).2.1 < 18446744073709551616 ∧ (f i).2.2.size ≤ maxLen := by
  rcases h with ⟨_, h, _⟩ | ⟨x, rfl, _, _, hc⟩
  · omega
  · obtain ⟨b, o, spot⟩ := x
    have hspot : spot = none := by
      have := (hc 0 (by omega)).1
      simpa [Addr.add] using World.cell?_spot this
    subst hspot
    obtain ⟨h0, h1, h2, h3, h4, h5⟩ := hc i hi
    rw [Addr.add_lit] at h0 h1 h2
    exact ⟨b, o, rfl, h0, by rw [Nat.add_assoc]; exact h1, by rw [Nat.add_assoc]; exact h2, h3, h4, h5⟩

theorem items_cap {w : World} {a : Option Addr} {len cap : Nat} {f : Nat → Nat × Nat × ByteArray} (h : IsItems w a len cap f) : len ≤ 9223372036854775807 := by
  rcases h with ⟨_, h, _⟩ | ⟨_, _, h1, h2, _⟩
  · omega
  · unfold maxLen at h2; omega

/-- What 'small' tells. -/
def SmallPost (len : Nat) (f : Nat → Nat × Nat × ByteArray) (e : Ending) : Prop :=
  ∃ b, e = .returned (.bool b) ∧ (b = true → len ≤ 30 ∧ ∀ i, i < len → (f i).2.2.size ≤ 60)

set_option maxHeartbeats 1000000 in
set_option maxRecDepth 100000 in
theorem small_any (a : Option Addr) (len cap : Nat) (f : Nat → Nat × Nat × ByteArray) (w : World) (h : IsItems w a len cap f) :
    Calls Try.prog 10 #[.slice a len cap] w fun e w' => SmallPost len f e ∧ w = w' := by
  have hcap := items_cap h
  have H := Lib.hid h; clear h
  go_enter Try.func10, Try.ntmps10
  go_wp2
  go_loop [3] (fun t => ∃ k : Nat, t = .int .i64 k ∧ k ≤ len ∧ ∀ i, i < k → (f i).2.2.size ≤ 60) (fun t => len - (intOf t).toNat)
  case atStart => exact ⟨0, rfl, Nat.zero_le _, by omega⟩
  case round =>
    obtain ⟨k, rfl, hk, hall⟩ := hrel
    have Hall := Lib.hid hall; clear hall
    by_cases hlt : k < len
    · obtain ⟨b, o, rfl, _, _, c2, _, _, hs⟩ := items_at H.out k hlt
      unfold maxLen at hs
      have x1 : (k : Int) < (len : Int) := by omega
      obtain ⟨s, hS⟩ : ∃ s, s = (f k).2.2 := ⟨_, rfl⟩
      rw [← hS] at c2 hs
      have HS := Lib.hid hS; clear hS
      by_cases hb : (60 : Int) < (s.size : Int)
      · go_wp2
        go_ret
        exact ⟨⟨false, rfl, by simp⟩, rfl⟩
      · go_wp2
        go_round
        case rel => exact ⟨k + 1, by go_num, by omega, fun i hi => by
          by_cases h1 : i < k
          · exact Hall.out i h1
          · obtain rfl : i = k := by omega
            rw [← HS.out]; omega⟩
        case measure => simp [intOf]; omega
    · have x1 : ¬ (k : Int) < (len : Int) := by omega
      obtain rfl : k = len := by omega
      by_cases h30 : k ≤ 30
      · have x2 : (k : Int) ≤ 30 := by omega
        go_wp2
        go_ret
        exact ⟨⟨true, rfl, fun _ => ⟨h30, Hall.out⟩⟩, rfl⟩
      · have x2 : ¬ (k : Int) ≤ 30 := by omega
        go_wp2
        go_ret
        exact ⟨⟨false, rfl, by simp⟩, rfl⟩

theorem ret2 {a b : Value} : Ending.returned (.tuple #[a, b]) = .returned (.tuple #[a, b]) := rfl

set_option maxHeartbeats 4000000 in
set_option maxRecDepth 100000 in
theorem laid_any (a : Option Addr) (len cap : Nat) (f : Nat → Nat × Nat × ByteArray) (w : World) (h : IsItems w a len cap f) (h30 : len ≤ 30) (h60 : ∀ i, i < len → (f i).2.2.size ≤ 60) :
    Calls Try.prog 11 #[.slice a len cap] w fun e w' => ∃ vp vq, e = .returned (.tuple #[vp, vq]) ∧ Rd w' vp (itemsL f len) ∧ Rd w' vq (itemsL f len) ∧ Kept w w' [] := by
  have hcap := items_cap h
  have hlenb : (itemsL f len).length ≤ 70 * len ∧ ∀ k, k ≤ len → (itemsL f k).length ≤ 70 * k := by
    have hg : ∀ k, k ≤ len → (itemsL f k).length ≤ 70 * k := fun k hk => itemsL_len f k (fun i hi => by
      obtain ⟨_, _, _, _, _, _, _, hn, _⟩ := items_at h i (by omega)
      exact ⟨hn, h60 i (by omega)⟩)
    exact ⟨hg len (Nat.le_refl _), hg⟩
  have H := Lib.hid h; have H60 := Lib.hid h60; have HL := Lib.hid hlenb
  clear h h60 hlenb
  go_enter Try.func11, Try.ntmps11
  go_wp2
  go_loopw [5, 6] (fun t i wr => ∃ (k : Nat) (x v : Value), t = x ∧ i = .int .i64 k ∧ k ≤ len ∧ Wr wr w.heap.size w.heap.size v (itemsL f k) ∧ Own wr w.heap.size 5 x (itemsL f k) ∧ (∀ y, x.ownBlock = some y → v.ownBlock ≠ some y) ∧ Kept w wr []) (fun _ i _ => len - (intOf i).toNat)
  case atStart => exact ⟨0, _, .slice none 0 0, rfl, rfl, Nat.zero_le _, ⟨heap_alloc_new w _, Own.nil _ _ _⟩, Own.nil _ _ _, by simp [Value.ownBlock], (Kept.refl w []).alloc _⟩
  case round =>
    obtain ⟨k, x, v, rfl, rfl, hk, hw, hx, hne, hkw⟩ := hrel
    have hz := hkw.size
    have hll := HL.out.2 k hk
    have Hw := Lib.hid hw; have Hx := Lib.hid hx; have Hne := Lib.hid hne; have Hkw := Lib.hid hkw
    clear hw hx hne hkw
    by_cases hlt : k < len
    · obtain ⟨b, o, rfl, c0, c1, c2, hb0, hb1, _⟩ := items_at H.out k hlt
      have hs60 := H60.out k hlt
      have c0' := Hkw.out.cell (p := ⟨b, o + k * 3, none⟩) (by simp) c0
      have c1' := Hkw.out.cell (p := ⟨b, o + k * 3 + 1, none⟩) (by simp) c1
      have c2' := Hkw.out.cell (p := ⟨b, o + k * 3 + 2, none⟩) (by simp) c2
      have x1 : (k : Int) < (len : Int) := by omega
      obtain ⟨kd, hkd⟩ : ∃ kd, kd = (f k).1 := ⟨_, rfl⟩
      obtain ⟨n, hn⟩ : ∃ n, n = (f k).2.1 := ⟨_, rfl⟩
      obtain ⟨s, hs⟩ : ∃ s, s = (f k).2.2 := ⟨_, rfl⟩
      rw [← hkd] at c0 c0' hb0
      rw [← hn] at c1 c1' hb1
      rw [← hs] at c2 c2' hs60
      have hL : itemsL f (k + 1) = itemsL f k ++ (if kd % 3 = 0 then numL n else if kd % 3 = 1 then intL (wrap64 (n : Int)) else textL s.data.toList) := by
        rw [itemsL, itemL, ← hkd, ← hn, ← hs]
      have HLk := Lib.hid hL
      have c0w := c0
      clear hkd hn hs hL c0 c1 c2
      have hs2 : s.data.toList.length = s.size := by rw [Array.length_toList]; rfl
      obtain ⟨rg1, rg2⟩ := wrap_range (n : Int)
      by_cases k0 : kd % 3 = 0
      · have y0 : ((kd : Int) % 3 == 0) = true := by simp; omega
        have hLn : itemsL f (k + 1) = itemsL f k ++ numL n := by rw [HLk.out, if_pos k0]
        obtain ⟨pc, hpc⟩ : ∃ pc, pc = numL n := ⟨_, rfl⟩
        have hpl : pc.length ≤ 70 := by rw [hpc]; exact by have := numL_ten (n := n) (by omega); omega
        have Hpc := Lib.hid hpc
        rw [← hpc] at hLn
        have HLn := Lib.hid hLn
        clear hpc hLn
        go_wp2_with fail
        refine (num_any w.heap.size w.heap.size v (itemsL f k) n wr Hw.out (by omega) (by omega) (by omega)).mono ?_
        rw [← Hpc.out]
        rintro e w1 ⟨rfl, v1, hw1, hs1⟩
        have hch : ∀ y ∈ [w.heap.size] ++ v.ownBlock.toList, w.heap.size ≤ y := by
          intro y hy
          rcases List.mem_append.1 hy with h | h
          · simp at h; omega
          · exact (Hw.out.2.lt y (by simpa using h)).1
        have hbw : b < w.heap.size := World.block_lt_of_cell? w _ c0w
        have c1a := hs1.1.cell (p := ⟨b, o + k * 3 + 1, none⟩) (fun hy => by have := hch _ hy; simp at this; omega) c1'
        have c2a := hs1.1.cell (p := ⟨b, o + k * 3 + 2, none⟩) (fun hy => by have := hch _ hy; simp at this; omega) c2'
        have hx1 := Hx.out.kept hs1.1 (by
          intro y hy hy2
          rcases List.mem_append.1 hy2 with h | h
          · exact Hx.out.apart Hw.out.1 (by decide) y hy (by simpa using h)
          · exact Hne.out y hy (by simpa using h))
        have hk1 := Hkw.out.trans hs1.1 (fun y hy => .inr (hch y hy))
        have hz1 := hs1.1.size
        have Hw1 := Lib.hid hw1; have Hx1 := Lib.hid hx1; have Hk1 := Lib.hid hk1
        clear hw1 hx1 hs1 hch hk1
        go_wp2_with fail
        refine (refnum_any n w1 (by omega)).mono ?_
        rw [← Hpc.out]
        rintro e w2 ⟨v2, rfl, ho2, hk2⟩
        have hz2 := hk2.size
        have Ho2 := Lib.hid ho2; have Hk2 := Lib.hid hk2
        clear ho2 hk2
        go_wp2_with fail
        refine (join_any _ v2 _ _ w2 (Hx1.out.rd.kept Hk2.out (by simp)) Ho2.out.rd (by omega) (by omega)).mono ?_
        rintro e w3 ⟨v3, rfl, ho3, hk3⟩
        have hw3 := (Hw1.out.kept Hk2.out (by simp) (by simp)).kept hk3 (by simp) (by simp)
        have hne3 : ∀ y, v3.ownBlock = some y → v1.ownBlock ≠ some y := by
          intro y hy hy2
          have h1 := (ho3.lt y hy).1
          have h2 := (Hw1.out.2.lt y hy2).2
          omega
        have ho3' := ho3.mono (base' := w.heap.size) (by omega)
        have hk3' := (Hk1.out.trans Hk2.out (by simp)).trans hk3 (by simp)
        rw [← HLn.out] at hw3 ho3'
        have Hw3 := Lib.hid hw3; have Ho3 := Lib.hid ho3'; have Hk3 := Lib.hid hk3'; have Hne3 := Lib.hid hne3
        clear hw3 ho3 ho3' hk3 hk3' hne3
        go_wp2
        go_roundw
        case rel => exact ⟨k + 1, _, v1, rfl, by go_num, by omega, Hw3.out, Ho3.out, Hne3.out, Hk3.out⟩
        case measure => simp [intOf]; omega
      · have y0 : ((kd : Int) % 3 == 0) = false := by simp; omega
        by_cases k1 : kd % 3 = 1
        · have y1 : ((kd : Int) % 3 == 1) = true := by simp; omega
          have hLn : itemsL f (k + 1) = itemsL f k ++ intL (wrap64 (n : Int)) := by rw [HLk.out, if_neg k0, if_pos k1]
          obtain ⟨pc, hpc⟩ : ∃ pc, pc = intL (wrap64 (n : Int)) := ⟨_, rfl⟩
          have hpl : pc.length ≤ 70 := by rw [hpc]; exact by have := numL_ten (Lib.zigzag_lt rg1 rg2); unfold intL; omega
          have Hpc := Lib.hid hpc
          rw [← hpc] at hLn
          have HLn := Lib.hid hLn
          clear hpc hLn
          go_wp2_with fail
          refine (int_any w.heap.size w.heap.size v (itemsL f k) (wrap64 (n : Int)) wr Hw.out (by omega) ⟨rg1, rg2⟩ (by omega)).mono ?_
          rw [← Hpc.out]
          rintro e w1 ⟨rfl, v1, hw1, hs1⟩
          have hch : ∀ y ∈ [w.heap.size] ++ v.ownBlock.toList, w.heap.size ≤ y := by
            intro y hy
            rcases List.mem_append.1 hy with h | h
            · simp at h; omega
            · exact (Hw.out.2.lt y (by simpa using h)).1
          have hbw : b < w.heap.size := World.block_lt_of_cell? w _ c0w
          have c1a := hs1.1.cell (p := ⟨b, o + k * 3 + 1, none⟩) (fun hy => by have := hch _ hy; simp at this; omega) c1'
          have c2a := hs1.1.cell (p := ⟨b, o + k * 3 + 2, none⟩) (fun hy => by have := hch _ hy; simp at this; omega) c2'
          have hx1 := Hx.out.kept hs1.1 (by
            intro y hy hy2
            rcases List.mem_append.1 hy2 with h | h
            · exact Hx.out.apart Hw.out.1 (by decide) y hy (by simpa using h)
            · exact Hne.out y hy (by simpa using h))
          have hk1 := Hkw.out.trans hs1.1 (fun y hy => .inr (hch y hy))
          have hz1 := hs1.1.size
          have Hw1 := Lib.hid hw1; have Hx1 := Lib.hid hx1; have Hk1 := Lib.hid hk1
          clear hw1 hx1 hs1 hch hk1
          go_wp2_with fail
          refine (refint_any (wrap64 (n : Int)) w1 ⟨rg1, rg2⟩).mono ?_
          rw [← Hpc.out]
          rintro e w2 ⟨v2, rfl, ho2, hk2⟩
          have hz2 := hk2.size
          have Ho2 := Lib.hid ho2; have Hk2 := Lib.hid hk2
          clear ho2 hk2
          go_wp2_with fail
          refine (join_any _ v2 _ _ w2 (Hx1.out.rd.kept Hk2.out (by simp)) Ho2.out.rd (by omega) (by omega)).mono ?_
          rintro e w3 ⟨v3, rfl, ho3, hk3⟩
          have hw3 := (Hw1.out.kept Hk2.out (by simp) (by simp)).kept hk3 (by simp) (by simp)
          have hne3 : ∀ y, v3.ownBlock = some y → v1.ownBlock ≠ some y := by
            intro y hy hy2
            have h1 := (ho3.lt y hy).1
            have h2 := (Hw1.out.2.lt y hy2).2
            omega
          have ho3' := ho3.mono (base' := w.heap.size) (by omega)
          have hk3' := (Hk1.out.trans Hk2.out (by simp)).trans hk3 (by simp)
          rw [← HLn.out] at hw3 ho3'
          have Hw3 := Lib.hid hw3; have Ho3 := Lib.hid ho3'; have Hk3 := Lib.hid hk3'; have Hne3 := Lib.hid hne3
          clear hw3 ho3 ho3' hk3 hk3' hne3
          go_wp2
          go_roundw
          case rel => exact ⟨k + 1, _, v1, rfl, by go_num, by omega, Hw3.out, Ho3.out, Hne3.out, Hk3.out⟩
          case measure => simp [intOf]; omega
        · have y1 : ((kd : Int) % 3 == 1) = false := by simp; omega
          have hLn : itemsL f (k + 1) = itemsL f k ++ textL s.data.toList := by rw [HLk.out, if_neg k0, if_neg k1]
          obtain ⟨pc, hpc⟩ : ∃ pc, pc = textL s.data.toList := ⟨_, rfl⟩
          have hpl : pc.length ≤ 70 := by rw [hpc]; exact by have := numL_ten (n := s.data.toList.length) (by omega); unfold textL; rw [List.length_append]; omega
          have Hpc := Lib.hid hpc
          rw [← hpc] at hLn
          have HLn := Lib.hid hLn
          clear hpc hLn
          go_wp2_with fail
          refine (text_any w.heap.size w.heap.size v (itemsL f k) s wr Hw.out (by omega) (by omega) (by omega)).mono ?_
          rw [← Hpc.out]
          rintro e w1 ⟨rfl, v1, hw1, hs1⟩
          have hch : ∀ y ∈ [w.heap.size] ++ v.ownBlock.toList, w.heap.size ≤ y := by
            intro y hy
            rcases List.mem_append.1 hy with h | h
            · simp at h; omega
            · exact (Hw.out.2.lt y (by simpa using h)).1
          have hbw : b < w.heap.size := World.block_lt_of_cell? w _ c0w
          have c1a := hs1.1.cell (p := ⟨b, o + k * 3 + 1, none⟩) (fun hy => by have := hch _ hy; simp at this; omega) c1'
          have c2a := hs1.1.cell (p := ⟨b, o + k * 3 + 2, none⟩) (fun hy => by have := hch _ hy; simp at this; omega) c2'
          have hx1 := Hx.out.kept hs1.1 (by
            intro y hy hy2
            rcases List.mem_append.1 hy2 with h | h
            · exact Hx.out.apart Hw.out.1 (by decide) y hy (by simpa using h)
            · exact Hne.out y hy (by simpa using h))
          have hk1 := Hkw.out.trans hs1.1 (fun y hy => .inr (hch y hy))
          have hz1 := hs1.1.size
          have Hw1 := Lib.hid hw1; have Hx1 := Lib.hid hx1; have Hk1 := Lib.hid hk1
          clear hw1 hx1 hs1 hch hk1
          go_wp2_with fail
          refine (reftext_any s w1 (by omega)).mono ?_
          rw [← Hpc.out]
          rintro e w2 ⟨v2, rfl, ho2, hk2⟩
          have hz2 := hk2.size
          have Ho2 := Lib.hid ho2; have Hk2 := Lib.hid hk2
          clear ho2 hk2
          go_wp2_with fail
          refine (join_any _ v2 _ _ w2 (Hx1.out.rd.kept Hk2.out (by simp)) Ho2.out.rd (by omega) (by omega)).mono ?_
          rintro e w3 ⟨v3, rfl, ho3, hk3⟩
          have hw3 := (Hw1.out.kept Hk2.out (by simp) (by simp)).kept hk3 (by simp) (by simp)
          have hne3 : ∀ y, v3.ownBlock = some y → v1.ownBlock ≠ some y := by
            intro y hy hy2
            have h1 := (ho3.lt y hy).1
            have h2 := (Hw1.out.2.lt y hy2).2
            omega
          have ho3' := ho3.mono (base' := w.heap.size) (by omega)
          have hk3' := (Hk1.out.trans Hk2.out (by simp)).trans hk3 (by simp)
          rw [← HLn.out] at hw3 ho3'
          have Hw3 := Lib.hid hw3; have Ho3 := Lib.hid ho3'; have Hk3 := Lib.hid hk3'; have Hne3 := Lib.hid hne3
          clear hw3 ho3 ho3' hk3 hk3' hne3
          go_wp2
          go_roundw
          case rel => exact ⟨k + 1, _, v1, rfl, by go_num, by omega, Hw3.out, Ho3.out, Hne3.out, Hk3.out⟩
          case measure => simp [intOf]; omega
    · have x1 : ¬ (k : Int) < (len : Int) := by omega
      obtain rfl : k = len := by omega
      go_wp2_with fail
      refine (bytes_any w.heap.size w.heap.size v _ wr Hw.out (by omega)).mono ?_
      rintro e w1 ⟨v1, rfl, ho1, hk1⟩
      have Ho1 := Lib.hid ho1; have Hk1 := Lib.hid hk1
      clear ho1 hk1
      go_wp2
      go_ret2
      exact ⟨_, _, rfl, Ho1.out.rd, Hx.out.rd.kept Hk1.out (by simp), Hkw.out.trans Hk1.out (by simp)⟩

end Go.Proofs.Ytfmljoekfbnpiaa
