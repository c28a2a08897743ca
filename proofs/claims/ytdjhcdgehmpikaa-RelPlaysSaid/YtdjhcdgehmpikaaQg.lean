/-
  What a statement has done, as the document says it; two lists that are alike.
-/
import Derived.Test.YtdjhcdgehmpikaaQf
namespace Go.Proofs.Ytdjhcdgehmpikaa
set_option linter.unusedVariables false
open Go.RowKit Go.Maps Go.Sort Go.Shelf

theorem Try.infoOpR : (Try.prog.info? 108).map (fun i => (i.zero, i.size, i.bytes)) = some (some (.agg #[.bool false, .int .i64 0, .string ByteArray.empty]), 3, 32) := by kernel_rfl

variable {w : World}

theorem src_op {W : World} {o : Obj} {z : Nat} (gone : Bool) (key : Int) (txt : ByteArray) (hz : W.heap.size = z) (ho : o = .cells #[.bool gone, .int .i64 key, .string txt] 108) :
    Src Try.prog 3 67 (.slice (some ⟨z, 0, none⟩) 1 1) 1 [.bool gone, .int .i64 key, .string txt] (W.alloc o) := by
  subst hz; subst ho
  have hb := heap_alloc_new W (.cells #[.bool gone, .int .i64 key, .string txt] 108)
  exact Src.ofSlice _ Try.underlying67 ⟨W.heap.size, 0, none⟩ 1 1 _ rfl (fun j u hu => by
    rw [Addr.add_lit, cell_of_row _ _ _ _ _ _ hb, Nat.zero_add]
    simpa using hu) (by intro u hu; simp at hu; rcases hu with rfl | rfl | rfl <;> rfl)

set_option maxHeartbeats 1000000 in
set_option maxRecDepth 100000 in
theorem rops_tru {base : Nat} (tb key : Int) (txt : ByteArray) (sv : Value) (R : List (Int × ByteArray)) (ho : w.ownsRow base 55 2 sv R.length (rcl R)) (hlen : R.length ≤ 1000000) :
    Calls Try.prog 26 #[.agg #[.int .u8 4, .int .i64 tb, .int .i64 key, .string txt], sv] w fun e w' => ∃ v', e = .returned v' ∧ w'.ownsRow w.heap.size 108 3 v' R.length (ocl (goneL R)) ∧ Kept w w' [] := by
  obtain ⟨i0, hi0, hz0, hz1, hzb⟩ := info_parts Try.infoOpR
  have I := Lib.hid (And.intro hi0 (And.intro hz0 (And.intro hz1 hzb)))
  clear hi0 hz0 hz1 hzb
  obtain ⟨a, c, rfl⟩ := ownsRow_shape ho
  obtain ⟨n, hn⟩ : ∃ n, R.length = n := ⟨_, rfl⟩
  have HN := Lib.hid hn
  obtain ⟨W1, hW1⟩ : ∃ W1, W1 = w.alloc (.cells #[.int .u8 4, .int .i64 tb, .int .i64 key, .string txt] 57) := ⟨_, rfl⟩
  have k1 : Kept w W1 [] := by rw [hW1]; exact (Kept.refl w []).alloc _
  have g1 : W1.heap[w.heap.size]? = some (.cells #[.int .u8 4, .int .i64 tb, .int .i64 key, .string txt] 57 (0, 0)) := by rw [hW1]; exact heap_alloc_new w _
  have G1 := Lib.hid g1; have K1 := Lib.hid k1
  obtain ⟨bx, hbx⟩ : ∃ bx, bx = w.heap.size := ⟨_, rfl⟩
  rw [← hbx] at G1
  have HO := Lib.hid ho
  have hhead : 0 < R.length → ∃ g, a = some ⟨g, 0, none⟩ ∧ R.length ≤ c := fun h0 => by
    rcases ho.2 with ⟨_, h2⟩ | ⟨g', cap, cur, h2, _, _, hnc, _⟩
    · omega
    · simp only [Value.slice.injEq] at h2
      obtain ⟨rfl, _, rfl⟩ := h2
      exact ⟨g', rfl, hnc⟩
  have HH := Lib.hid hhead
  rw [hn] at hlen ⊢
  have z0 : W1.cell? ⟨bx, 0, none⟩ = some (.int .u8 4) := by rw [cell_of_row _ _ 0 _ _ _ G1.out]; rfl
  clear ho g1 k1 hhead
  go_enter Try.func26, Try.ntmps26
  clear hn
  go_wp2_with fail
  rw [← hW1, ← hbx]
  have hbl := heap_lt G1.out
  clear hW1 hbx z0
  go_loopw [5, 6] (fun l t wr => ∃ k : Nat, t = .int .i64 k ∧ k ≤ n ∧ wr.ownsRow W1.heap.size 108 3 l k (ocl (goneL (R.take k))) ∧ Kept W1 wr []) (fun _ t _ => n - (intOf t).toNat)
  case atStart => exact ⟨0, rfl, Nat.zero_le _, World.ownsRow_nil _ _ _ _, Kept.refl W1 []⟩
  case round =>
    obtain ⟨k, rfl, hk, ho, hkw⟩ := hrel
    have O := Lib.hid ho; have K := Lib.hid hkw
    obtain ⟨al, cl, hal⟩ := ownsRow_shape ho
    have z0 : wr.cell? ⟨bx, 0, none⟩ = some (.int .u8 4) := by rw [cell_of_row _ _ 0 _ _ _ (K.out.heap (by simp) G1.out)]; rfl
    clear ho hkw
    subst hal
    by_cases hlt : k < n
    · obtain ⟨⟨rk, rt⟩, hr⟩ : ∃ r, R[k]? = some r := ⟨_, List.getElem?_eq_getElem (by have := HN.out; omega)⟩
      obtain ⟨g, rfl, hgc⟩ := HH.out (by have := HN.out; omega)
      obtain ⟨c0, c1⟩ := rcl_cells (ownsRow_fr HO.out (Fr.ofKept (K1.out.trans K.out (by simp)) 0 []) (by simp)) hr
      have x1 : (k : Int) < (n : Int) := by omega
      have HR := Lib.hid hr
      obtain ⟨wB, hwB⟩ : ∃ wB, wB = wr.alloc (.cells #[.bool true, .int .i64 rk, .string rt] 108) := ⟨_, rfl⟩
      have HwB := Lib.hid hwB
      have kB : Kept wr wB [] := by rw [hwB]; exact (Kept.refl wr []).alloc _
      have sB : Src Try.prog 3 67 (.slice (some ⟨wr.heap.size, 0, none⟩) 1 1) 1 [.bool true, .int .i64 rk, .string rt] wB := by rw [hwB]; exact src_op true rk rt rfl rfl
      have SB := Lib.hid sB; have KB := Lib.hid kB
      have oB := Lib.hid (ownsRow_fr O.out (Fr.ofKept kB 0 []) (by simp))
      have hbB : W1.heap.size ≤ wB.heap.size := Nat.le_trans K.out.size kB.size
      clear hr hwB kB sB hgc
      go_wp2_with (at_builtin; refine wpList_append_all _ rfl (.tmp 35) (.tmp 41) 67 67 rfl W1.heap.size 108 i0 _ 3 32 Try.underlying67 I.out.1 I.out.2.1 I.out.2.2.1 I.out.2.2.2 rfl (.slice al k cl) k (ocl (goneL (R.take k))) rfl ?hown _ 1 [.bool true, .int .i64 rk, .string rt] rfl ?hsrc ?b1 ?b2 ?base ?next)
      case hown => rw [← HwB.out]; exact oB.out
      case hsrc => rw [← HwB.out]; exact SB.out
      case b1 => unfold maxLen; omega
      case b2 => omega
      case base => rw [← HwB.out]; exact hbB
      case next =>
        intro v5 w5 ho5 _ hg5 _
        rw [← HwB.out] at hg5
        obtain ⟨a5, c5, hs5⟩ := ownsRow_shape ho5
        have e1 : ocl (goneL (R.take k)) ++ [.bool true, .int .i64 rk, .string rt] = ocl (goneL (R.take (k + 1))) := by
          rw [List.take_add_one, HR.out, goneL, goneL, List.map_append, ocl_append]; rfl
        rw [e1] at ho5
        have O5 := Lib.hid ho5
        have K5 := Lib.hid ((K.out.trans KB.out (by simp)).grown hg5 (fun j hj => .inr ((World.ownsRow.lt O.out j hj).1)))
        clear ho5 hg5 e1 c0 c1 z0
        subst hs5
        go_wp2
        go_roundw
        case rel => exact ⟨k + 1, by go_num, by omega, O5.out, K5.out⟩
        case measure => simp [intOf]; omega
    · have x1 : ¬ (k : Int) < (n : Int) := by omega
      have R1 : Hid (R.take k = R ∧ k = n) := Lib.hid (by
        have := HN.out
        exact ⟨by rw [List.take_of_length_le (by omega)], by omega⟩)
      go_wp2
      go_ret
      refine ⟨.slice al k cl, rfl, ?_, K1.out.trans K.out (by simp)⟩
      have := O.out
      rw [R1.out.1] at this
      rw [← R1.out.2]
      exact ownsRow_low this K1.out.size

set_option maxHeartbeats 1000000 in
set_option maxRecDepth 100000 in
theorem rops_none (kind : Nat) (hkd : kind = 0 ∨ 5 ≤ kind) (tb key : Int) (txt : ByteArray) (sv : Value) :
    Calls Try.prog 26 #[.agg #[.int .u8 kind, .int .i64 tb, .int .i64 key, .string txt], sv] w fun e w' => e = .returned (.slice none 0 0) ∧ Kept w w' [] := by
  by_cases h0 : kind = 0
  · subst h0
    clear hkd
    go_enter Try.func26, Try.ntmps26
    go_wp2_with fail
    go_loopw [5, 6] (fun s t wr => s = (.slice none 0 0) ∧ t = .int .i64 0 ∧ wr = w.alloc (.cells #[.int .u8 0, .int .i64 tb, .int .i64 key, .string txt] 57)) (fun _ _ _ => 0)
    case atStart => exact ⟨rfl, rfl, rfl⟩
    case round =>
      obtain ⟨rfl, rfl, rfl⟩ := hrel
      go_wp2
      go_ret
      exact ⟨rfl, (Kept.refl w []).alloc _⟩
  · have x1 : ¬ (kind : Int) = 4 := by omega
    have x2 : (1 : Int) ≤ (kind : Int) := by omega
    have x3 : ¬ (kind : Int) ≤ 3 := by omega
    clear hkd h0
    go_enter Try.func26, Try.ntmps26
    go_wp2_with fail
    go_loopw [5, 6] (fun s t wr => s = (.slice none 0 0) ∧ t = .int .i64 0 ∧ wr = w.alloc (.cells #[.int .u8 kind, .int .i64 tb, .int .i64 key, .string txt] 57)) (fun _ _ _ => 0)
    case atStart => exact ⟨rfl, rfl, rfl⟩
    case round =>
      obtain ⟨rfl, rfl, rfl⟩ := hrel
      go_wp2
      go_ret
      exact ⟨rfl, (Kept.refl w []).alloc _⟩

/-- What an append of one makes. -/
theorem one_app {W1 w5 : World} {v5 : Value} {gone : Bool} {key : Int} {txt : ByteArray} (k1 : Kept w W1 []) (ho : w5.ownsRow w.heap.size 108 3 v5 1 (ocl [⟨gone, key, txt⟩]))
    (hg : (W1.alloc (.cells #[.bool gone, .int .i64 key, .string txt] 108)).grownBy w5 none) : Kept w w5 [] ∧ Kept W1 w5 [] := by
  have k2 : Kept W1 w5 [] := ((Kept.refl W1 []).alloc _).trans (kept_grown hg) (by simp)
  exact ⟨k1.trans k2 (by simp), k2⟩

set_option maxHeartbeats 1000000 in
set_option maxRecDepth 100000 in
theorem rops_one1 (tb key : Int) (txt : ByteArray) (sv : Value) :
    Calls Try.prog 26 #[.agg #[.int .u8 1, .int .i64 tb, .int .i64 key, .string txt], sv] w fun e w' => ∃ v', e = .returned v' ∧ w'.ownsRow w.heap.size 108 3 v' 1 (ocl [⟨false, key, txt⟩]) ∧ Kept w w' [] := by
  obtain ⟨i0, hi0, hz0, hz1, hzb⟩ := info_parts Try.infoOpR
  have I := Lib.hid (And.intro hi0 (And.intro hz0 (And.intro hz1 hzb)))
  clear hi0 hz0 hz1 hzb
  have SB := fun z hz => src_op (W := w.alloc (.cells #[.int .u8 1, .int .i64 tb, .int .i64 key, .string txt] 57)) (z := z) false key txt hz rfl
  go_enter Try.func26, Try.ntmps26
  go_wp2_with (at_builtin; refine wpList_append_all _ rfl (.tmp 15) (.tmp 22) 67 67 rfl w.heap.size 108 i0 _ 3 32 Try.underlying67 I.out.1 I.out.2.1 I.out.2.2.1 I.out.2.2.2 rfl (.slice none 0 0) 0 [] rfl (World.ownsRow_nil _ _ _ _) _ 1 [.bool false, .int .i64 key, .string txt] rfl (SB _ (by simp)) (by unfold maxLen; omega) (by omega) (by simp; omega) ?next)
  case next =>
    intro v5 w5 ho5 _ hg5 _
    obtain ⟨a5, c5, hs5⟩ := ownsRow_shape ho5
    subst hs5
    obtain ⟨k5, k6⟩ := one_app (gone := false) (key := key) (txt := txt) ((Kept.refl w []).alloc _) ho5 hg5
    have z0 : w5.cell? ⟨w.heap.size, 0, none⟩ = some (.int .u8 1) := by rw [cell_of_row _ _ 0 _ _ _ (k6.heap (by simp) (heap_alloc_new w _))]; rfl
    have O5 := Lib.hid ho5; have K5 := Lib.hid k5
    clear ho5 hg5 k5 k6 SB
    go_wp2_with fail
    go_loopw [5, 6] (fun s t wr => s = .slice a5 1 c5 ∧ t = .int .i64 0 ∧ wr = w5) (fun _ _ _ => 0)
    case atStart => exact ⟨rfl, rfl, rfl⟩
    case round =>
      obtain ⟨rfl, rfl, rfl⟩ := hrel
      go_wp2
      go_ret
      exact ⟨_, rfl, O5.out, K5.out⟩

set_option maxHeartbeats 1000000 in
set_option maxRecDepth 100000 in
theorem rops_one2 (tb key : Int) (txt : ByteArray) (sv : Value) :
    Calls Try.prog 26 #[.agg #[.int .u8 2, .int .i64 tb, .int .i64 key, .string txt], sv] w fun e w' => ∃ v', e = .returned v' ∧ w'.ownsRow w.heap.size 108 3 v' 1 (ocl [⟨false, key, txt⟩]) ∧ Kept w w' [] := by
  obtain ⟨i0, hi0, hz0, hz1, hzb⟩ := info_parts Try.infoOpR
  have I := Lib.hid (And.intro hi0 (And.intro hz0 (And.intro hz1 hzb)))
  clear hi0 hz0 hz1 hzb
  have SB := fun z hz => src_op (W := w.alloc (.cells #[.int .u8 2, .int .i64 tb, .int .i64 key, .string txt] 57)) (z := z) false key txt hz rfl
  go_enter Try.func26, Try.ntmps26
  go_wp2_with (at_builtin; refine wpList_append_all _ rfl (.tmp 15) (.tmp 22) 67 67 rfl w.heap.size 108 i0 _ 3 32 Try.underlying67 I.out.1 I.out.2.1 I.out.2.2.1 I.out.2.2.2 rfl (.slice none 0 0) 0 [] rfl (World.ownsRow_nil _ _ _ _) _ 1 [.bool false, .int .i64 key, .string txt] rfl (SB _ (by simp)) (by unfold maxLen; omega) (by omega) (by simp; omega) ?next)
  case next =>
    intro v5 w5 ho5 _ hg5 _
    obtain ⟨a5, c5, hs5⟩ := ownsRow_shape ho5
    subst hs5
    obtain ⟨k5, k6⟩ := one_app (gone := false) (key := key) (txt := txt) ((Kept.refl w []).alloc _) ho5 hg5
    have z0 : w5.cell? ⟨w.heap.size, 0, none⟩ = some (.int .u8 2) := by rw [cell_of_row _ _ 0 _ _ _ (k6.heap (by simp) (heap_alloc_new w _))]; rfl
    have O5 := Lib.hid ho5; have K5 := Lib.hid k5
    clear ho5 hg5 k5 k6 SB
    go_wp2_with fail
    go_loopw [5, 6] (fun s t wr => s = .slice a5 1 c5 ∧ t = .int .i64 0 ∧ wr = w5) (fun _ _ _ => 0)
    case atStart => exact ⟨rfl, rfl, rfl⟩
    case round =>
      obtain ⟨rfl, rfl, rfl⟩ := hrel
      go_wp2
      go_ret
      exact ⟨_, rfl, O5.out, K5.out⟩

set_option maxHeartbeats 1000000 in
set_option maxRecDepth 100000 in
theorem rops_one3 (tb key : Int) (txt : ByteArray) (sv : Value) :
    Calls Try.prog 26 #[.agg #[.int .u8 3, .int .i64 tb, .int .i64 key, .string txt], sv] w fun e w' => ∃ v', e = .returned v' ∧ w'.ownsRow w.heap.size 108 3 v' 1 (ocl [⟨true, key, txt⟩]) ∧ Kept w w' [] := by
  obtain ⟨i0, hi0, hz0, hz1, hzb⟩ := info_parts Try.infoOpR
  have I := Lib.hid (And.intro hi0 (And.intro hz0 (And.intro hz1 hzb)))
  clear hi0 hz0 hz1 hzb
  have SB := fun z hz => src_op (W := w.alloc (.cells #[.int .u8 3, .int .i64 tb, .int .i64 key, .string txt] 57)) (z := z) true key txt hz rfl
  go_enter Try.func26, Try.ntmps26
  go_wp2_with (at_builtin; refine wpList_append_all _ rfl (.tmp 15) (.tmp 22) 67 67 rfl w.heap.size 108 i0 _ 3 32 Try.underlying67 I.out.1 I.out.2.1 I.out.2.2.1 I.out.2.2.2 rfl (.slice none 0 0) 0 [] rfl (World.ownsRow_nil _ _ _ _) _ 1 [.bool true, .int .i64 key, .string txt] rfl (SB _ (by simp)) (by unfold maxLen; omega) (by omega) (by simp; omega) ?next)
  case next =>
    intro v5 w5 ho5 _ hg5 _
    obtain ⟨a5, c5, hs5⟩ := ownsRow_shape ho5
    subst hs5
    obtain ⟨k5, k6⟩ := one_app (gone := true) (key := key) (txt := txt) ((Kept.refl w []).alloc _) ho5 hg5
    have z0 : w5.cell? ⟨w.heap.size, 0, none⟩ = some (.int .u8 3) := by rw [cell_of_row _ _ 0 _ _ _ (k6.heap (by simp) (heap_alloc_new w _))]; rfl
    have O5 := Lib.hid ho5; have K5 := Lib.hid k5
    clear ho5 hg5 k5 k6 SB
    go_wp2_with fail
    go_loopw [5, 6] (fun s t wr => s = .slice a5 1 c5 ∧ t = .int .i64 0 ∧ wr = w5) (fun _ _ _ => 0)
    case atStart => exact ⟨rfl, rfl, rfl⟩
    case round =>
      obtain ⟨rfl, rfl, rfl⟩ := hrel
      go_wp2
      go_ret
      exact ⟨_, rfl, O5.out, K5.out⟩

theorem rops_any {base : Nat} (kind : Nat) (tb key : Int) (txt : ByteArray) (sv : Value) (R : List (Int × ByteArray)) (ho : w.ownsRow base 55 2 sv R.length (rcl R)) (hlen : R.length ≤ 1000000) :
    Calls Try.prog 26 #[.agg #[.int .u8 kind, .int .i64 tb, .int .i64 key, .string txt], sv] w fun e w' => ∃ v', e = .returned v' ∧ w'.ownsRow w.heap.size 108 3 v' (opsL kind key txt R).length (ocl (opsL kind key txt R)) ∧ Kept w w' [] := by
  by_cases h : kind = 0 ∨ 5 ≤ kind
  · have e : opsL kind key txt R = [] := by unfold opsL; rw [if_neg (by omega), if_neg (by omega), if_neg (by omega)]
    rw [e]
    refine (rops_none kind h tb key txt sv).mono ?_
    rintro e w' ⟨rfl, k⟩
    exact ⟨_, rfl, World.ownsRow_nil _ _ _ _, k⟩
  · obtain rfl | rfl | rfl | rfl : kind = 1 ∨ kind = 2 ∨ kind = 3 ∨ kind = 4 := by omega
    · exact rops_one1 tb key txt sv
    · exact rops_one2 tb key txt sv
    · exact rops_one3 tb key txt sv
    · have e : opsL 4 key txt R = goneL R := by simp [opsL]
      have e2 : (goneL R).length = R.length := by simp [goneL]
      rw [e, e2]
      exact rops_tru tb key txt sv R ho hlen

theorem ocl_cells {base g n c k : Nat} {ty : TypeId} {l : List Opn} {o : Opn} (ho : w.ownsRow base ty 3 (.slice (some ⟨g, 0, none⟩) n c) l.length (ocl l)) (hr : l[k]? = some o) :
    w.cell? ⟨g, k * 3, none⟩ = some (.bool o.gone) ∧ w.cell? ⟨g, k * 3 + 1, none⟩ = some (.int .i64 o.key) ∧ w.cell? ⟨g, k * 3 + 2, none⟩ = some (.string o.txt) := by
  have get : ∀ (l : List Opn) (k : Nat), l[k]? = some o → (ocl l)[k * 3]? = some (.bool o.gone) ∧ (ocl l)[k * 3 + 1]? = some (.int .i64 o.key) ∧ (ocl l)[k * 3 + 2]? = some (.string o.txt) := by
    intro l
    induction l with
    | nil => intro k h; simp at h
    | cons x l ih =>
      intro k h
      cases k with
      | zero => simp only [List.getElem?_cons_zero, Option.some.injEq] at h; subst h; exact ⟨rfl, rfl, rfl⟩
      | succ k =>
        obtain ⟨h1, h2, h3⟩ := ih k (by simpa using h)
        have e : ocl (x :: l) = .bool x.gone :: .int .i64 x.key :: .string x.txt :: ocl l := rfl
        rw [e]
        refine ⟨?_, ?_, ?_⟩
        · rw [show (k + 1) * 3 = k * 3 + 1 + 1 + 1 by omega]; simpa using h1
        · rw [show (k + 1) * 3 + 1 = (k * 3 + 1) + 1 + 1 + 1 by omega]; simpa using h2
        · rw [show (k + 1) * 3 + 2 = (k * 3 + 2) + 1 + 1 + 1 by omega]; simpa using h3
  obtain ⟨h1, h2, h3⟩ := get l k hr
  have c1 := World.ownsRow.cells ho (g := g) rfl _ _ h1
  have c2 := World.ownsRow.cells ho (g := g) rfl _ _ h2
  have c3 := World.ownsRow.cells ho (g := g) rfl _ _ h3
  simp only [Addr.add_lit, Nat.zero_add] at c1 c2 c3
  exact ⟨c1, c2, c3⟩

theorem own_head {base n c e size : Nat} {a : Option Addr} {xs : List Value} (h : w.ownsRow base e size (.slice a n c) n xs) : n ≤ c ∧ n ≤ 9223372036854775807 ∨ n = 0 := by
  rcases h.2 with ⟨_, h0⟩ | ⟨g, cap, cur, hv, hbg, hg, hnc, hcm, hcs, htk⟩
  · exact .inr h0
  · simp only [Value.slice.injEq] at hv
    obtain ⟨rfl, _, rfl⟩ := hv
    unfold maxLen at hcm
    exact .inl ⟨hnc, by omega⟩

theorem own_at {base n c e size : Nat} {a : Option Addr} {xs : List Value} (h : w.ownsRow base e size (.slice a n c) n xs) (h0 : 0 < n) : ∃ g, a = some ⟨g, 0, none⟩ ∧ n ≤ c ∧ n ≤ 9223372036854775807 := by
  rcases h.2 with ⟨_, h0⟩ | ⟨g, cap, cur, hv, hbg, hg, hnc, hcm, hcs, htk⟩
  · omega
  · simp only [Value.slice.injEq] at hv
    obtain ⟨rfl, _, rfl⟩ := hv
    unfold maxLen at hcm
    exact ⟨g, rfl, hnc, by omega⟩

set_option maxHeartbeats 1000000 in
set_option maxRecDepth 100000 in
/-- Ops that are alike are told so. -/
theorem ops_same {base base' : Nat} {a c : Value} {l : List Opn} (ha : w.ownsRow base 80 3 a l.length (ocl l)) (hc : w.ownsRow base' 108 3 c l.length (ocl l)) :
    Calls Try.prog 24 #[a, c] w fun e w' => e = .returned (.bool true) ∧ Kept w w' [] := by
  obtain ⟨a1, c1, rfl⟩ := ownsRow_shape ha
  obtain ⟨a2, c2, rfl⟩ := ownsRow_shape hc
  obtain ⟨n, hn⟩ : ∃ n, l.length = n := ⟨_, rfl⟩
  by_cases h0 : n = 0
  · rw [hn, h0] at *
    clear ha hc hn h0
    go_enter Try.func24, Try.ntmps24
    go_wp2
    go_loop [5] (fun t => t = .int .i64 0) (fun _ => 0)
    case atStart => rfl
    case round =>
      subst hrel
      go_wp2
      go_ret
      exact ⟨rfl, Kept.refl w []⟩
  · obtain ⟨g, rfl, hnc, hn9⟩ := own_at ha (by omega)
    obtain ⟨g2, rfl, hnc2, _⟩ := own_at hc (by omega)
    have HA := Lib.hid ha; have HCC := Lib.hid hc
    have HN := Lib.hid hn
    rw [hn] at hnc hnc2 hn9 ⊢
    clear ha hc hnc hnc2 hn h0
    go_enter Try.func24, Try.ntmps24
    go_wp2
    go_loopw [5] (fun t wr => ∃ k : Nat, t = .int .i64 k ∧ k ≤ n ∧ Kept w wr []) (fun t _ => n - (intOf t).toNat)
    case atStart => exact ⟨0, rfl, Nat.zero_le _, Kept.refl w []⟩
    case round =>
      obtain ⟨k, rfl, hk, hkw⟩ := hrel
      have K := Lib.hid hkw
      clear hkw
      by_cases hlt : k < n
      · obtain ⟨o, hr⟩ : ∃ o, l[k]? = some o := ⟨_, List.getElem?_eq_getElem (by have := HN.out; omega)⟩
        obtain ⟨y0, y1, y2⟩ := ocl_cells (ownsRow_fr HA.out (Fr.ofKept K.out 0 []) (by simp)) hr
        obtain ⟨z0, z1, z2⟩ := ocl_cells (ownsRow_fr HCC.out (Fr.ofKept K.out 0 []) (by simp)) hr
        have x1 : (k : Int) < (n : Int) := by omega
        obtain ⟨gone, key, txt⟩ := o
        simp only at y0 y1 y2 z0 z1 z2
        clear hr
        cases gone
        · go_wp2
          go_quiet (fail)
          go_wp2
          go_roundw
          case rel => exact ⟨k + 1, by go_num, by omega, K.out.drewN _⟩
          case measure => simp [intOf]; omega
        · go_wp2
          go_quiet (fail)
          go_wp2
          go_roundw
          case rel => exact ⟨k + 1, by go_num, by omega, K.out.drewN _⟩
          case measure => simp [intOf]; omega
      · have x1 : ¬ (k : Int) < (n : Int) := by omega
        go_wp2
        go_ret
        exact ⟨rfl, K.out⟩
end Go.Proofs.Ytdjhcdgehmpikaa
