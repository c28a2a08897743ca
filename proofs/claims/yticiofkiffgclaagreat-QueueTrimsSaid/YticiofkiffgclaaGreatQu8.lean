/-
 Rta, Rtf, Rtg in one text.
-/
import Derived.Test.YticiofkiffgclaaGreatQu0
import Derived.Test.YticiofkiffgclaaGreatQu7
import Derived.Test.YticiofkiffgclaaGreatQu2
import Derived.Test.YticiofkiffgclaaGreatQu6
import Derived.Test.YticiofkiffgclaaGreatQu4
set_option linter.unusedVariables false
set_option maxHeartbeats 16000000
set_option maxRecDepth 100000
namespace Go.Proofs.YticiofkiffgclaaGreat
open Go.RowKit
def cmpI (a b : Int) : Int := if a < b then -1 else if b < a then 1 else 0
def cmpS (a b : ByteArray) : Int := if ltN a b = true then -1 else if ltN b a = true then 1 else 0
def orI (l : List Int) : Int := (l.find? fun x => x != 0).getD 0
theorem orI_hit : ∀ {l : List Int} {k : Nat} {x : Int}, l[k]? = some x -> x ≠ 0 -> (∀ j y, j < k -> l[j]? = some y -> y = 0) -> orI l = x
 | [], k, x, h, _, _ => by simp at h
 | a :: t, 0, x, h, hx, _ => by
  simp only [List.getElem?_cons_zero, Option.some.injEq] at h
  subst h
  rw [orI, List.find?_cons_of_pos (by simpa using hx)]
  rfl
 | a :: t, k + 1, x, h, hx, h0 => by
  have e : a = 0 := h0 0 a (by omega) rfl
  have ih := orI_hit (l := t) (k := k) (x := x) (by simpa using h) hx (fun j y hj hy => h0 (j + 1) y (by omega) (by simpa using hy))
  rw [orI, List.find?_cons_of_neg (by simp [e])]
  exact ih
theorem orI_miss {l : List Int} (h : ∀ (j : Nat) (y : Int), l[j]? = some y -> y = 0) : orI l = 0 := by
 rw [orI, List.find?_eq_none.2 (fun x hx => by
  obtain ⟨j, hj, rfl⟩ := List.mem_iff_getElem.1 hx
  simp [h j _ (List.getElem?_eq_getElem hj)])]
 rfl
theorem orI3 (a b c : Int) : orI [a, b, c] = if a ≠ 0 then a else if b ≠ 0 then b else c := by
 by_cases h : a = 0
 ·by_cases k : b = 0
  ·by_cases m : c = 0
   ·subst h; subst k; subst m; rfl
   subst h; subst k
   rw [if_neg (by simp), if_neg (by simp)]
   exact orI_hit (k := 2) rfl m (fun j y hj hy => by
    rcases j with _ | _ | j
    ·simp at hy; exact hy.symm
    ·simp at hy; exact hy.symm
    ·omega)
  subst h
  rw [if_neg (by simp), if_pos k]
  exact orI_hit (k := 1) rfl k (fun j y hj hy => by
   rcases j with _ | j
   ·simp at hy; exact hy.symm
   ·omega)
 rw [if_pos h]
 exact orI_hit (k := 0) rfl h (fun j y hj _ => absurd hj (Nat.not_lt_zero _))
def cmpT (x y : It) : Int := orI [cmpI x.a y.a, cmpI x.e.id y.e.id, cmpS x.e.ow y.e.ow]
theorem cmpT_lt (x y : It) : decide (cmpT x y < 0) = ltI x y := by
 have h : cmpT x y < 0 ↔ ltI x y = true := by
  rw [ltI_iff, cmpT, orI3]
  unfold cmpI cmpS
  by_cases a1 : x.a < y.a
  ·simp [a1]
  by_cases a2 : y.a < x.a
  ·have : ¬ x.a = y.a := by omega
   simp [a1, a2, this]
  obtain e1 : x.a = y.a := by omega
  by_cases b1 : x.e.id < y.e.id
  ·simp [e1, b1]
  by_cases b2 : y.e.id < x.e.id
  ·have : ¬ x.e.id = y.e.id := by omega
   simp [e1, b1, b2, this]
  obtain e2 : x.e.id = y.e.id := by omega
  by_cases c1 : ltN x.e.ow y.e.ow = true
  ·simp [e1, e2, c1]
  by_cases c2 : ltN y.e.ow x.e.ow = true
  ·simp [e1, e2, c1, c2]
  simp [e1, e2, c1, c2]
 cases k : ltI x y with
 | true => simpa using h.2 k
 | false =>
 rw [decide_eq_false_iff_not]
 intro c
 rw [h.1 c] at k
 cases k
theorem nanI_any (a : Int) (w : World) : Calls Tryz.prog 146 #[.int .i64 a] w fun e w' => e = .returned (.bool false) /\ w' = w := by
 go_enter Tryz.func146, Tryz.ntmps146
 go_wp2
 go_ret
 simp
theorem nanS_any (a : ByteArray) (w : World) : Calls Tryz.prog 214 #[.string a] w fun e w' => e = .returned (.bool false) /\ w' = w := by
 go_enter Tryz.func214, Tryz.ntmps214
 go_wp2
 go_ret
 simp
theorem cmpI_any (a b : Int) (w : World) : Calls Tryz.prog 89 #[.int .i64 a, .int .i64 b] w fun e w' => e = .returned (.int .i64 (cmpI a b)) /\ w' = w := by
 by_cases h1 : a < b
 ·have e1 : cmpI a b = -1 := by rw [cmpI, if_pos h1]
  rw [e1]
  clear e1
  go_enter Tryz.func89, Tryz.ntmps89
  go_wp2_with (go_at_call 146; refine (nanI_any _ _).mono ?_; rintro e w2 ⟨rfl, rfl⟩)
  go_ret
  exact ⟨rfl, rfl⟩
 by_cases h2 : b < a
 ·have e1 : cmpI a b = 1 := by rw [cmpI, if_neg h1, if_pos h2]
  rw [e1]
  clear e1
  go_enter Tryz.func89, Tryz.ntmps89
  go_wp2_with (go_at_call 146; refine (nanI_any _ _).mono ?_; rintro e w2 ⟨rfl, rfl⟩)
  go_ret
  exact ⟨rfl, rfl⟩
 have e1 : cmpI a b = 0 := by rw [cmpI, if_neg h1, if_neg h2]
 rw [e1]
 clear e1
 go_enter Tryz.func89, Tryz.ntmps89
 go_wp2_with (go_at_call 146; refine (nanI_any _ _).mono ?_; rintro e w2 ⟨rfl, rfl⟩)
 go_ret
 exact ⟨rfl, rfl⟩
theorem cmpS_any (a b : ByteArray) (w : World) : Calls Tryz.prog 191 #[.string a, .string b] w fun e w' => e = .returned (.int .i64 (cmpS a b)) /\ w' = w := by
 by_cases h1 : ltN a b = true
 ·have e1 : cmpS a b = -1 := by rw [cmpS, if_pos h1]
  rw [e1]
  clear e1
  unfold ltN at h1
  go_enter Tryz.func191, Tryz.ntmps191
  go_wp2_with (go_at_call 214; refine (nanS_any _ _).mono ?_; rintro e w2 ⟨rfl, rfl⟩)
  go_ret
  exact ⟨rfl, rfl⟩
 by_cases h2 : ltN b a = true
 ·have e1 : cmpS a b = 1 := by rw [cmpS, if_neg h1, if_pos h2]
  rw [e1]
  have h1 : ltN a b = false := by simpa using h1
  clear e1
  have h3 : (a.toList == b.toList) = false := by
   rw [beq_eq_false_iff_ne]
   intro h3
   rw [ltN, h3, yqe] at h2
   cases h2
  unfold ltN at h1 h2
  go_enter Tryz.func191, Tryz.ntmps191
  go_wp2_with (go_at_call 214; refine (nanS_any _ _).mono ?_; rintro e w2 ⟨rfl, rfl⟩)
  go_ret
  exact ⟨rfl, rfl⟩
 have e1 : cmpS a b = 0 := by rw [cmpS, if_neg h1, if_neg h2]
 rw [e1]
 have h1 : ltN a b = false := by simpa using h1
 have h2 : ltN b a = false := by simpa using h2
 obtain rfl : a = b := toList_inj (bl_tri _ _ h1 h2)
 clear e1 h2
 unfold ltN at h1
 go_enter Tryz.func191, Tryz.ntmps191
 go_wp2_with (go_at_call 214; refine (nanS_any _ _).mono ?_; rintro e w2 ⟨rfl, rfl⟩)
 go_ret
 exact ⟨rfl, rfl⟩
theorem or_any (l : List Int) (hl : l.length <= 1000) (c b : Nat) (w : World) (hc : ∀ k x, l[k]? = some x -> w.cell? ⟨b, k, none⟩ = some (.int .i64 x)) : Calls Tryz.prog 190 #[.slice (some ⟨b, 0, none⟩) l.length c] w fun e w' => e = .returned (.int .i64 (orI l)) /\ w' = w := by
 have HC := iH hc
 clear hc
 go_enter Tryz.func190, Tryz.ntmps190
 go_wp2
 go_loop [5, 8] (fun _ t => ∃ k : Nat, t = .int .i64 k /\ k <= l.length /\ RowKit.Hid (∀ j y, j < k -> l[j]? = some y -> y = 0)) (fun _ t => l.length - (intOf t).toNat)
 case atStart => exact ⟨0, rfl, Nat.zero_le _, iH (fun j y hj => absurd hj (Nat.not_lt_zero _))⟩
 case round =>
 obtain ⟨k, rfl, hk, HX⟩ := hrel
 by_cases hlt : k < l.length
 ·obtain ⟨x, hx⟩ : ∃ x, l[k]? = some x := ⟨_, List.getElem?_eq_getElem hlt⟩
  have c0 := HC.out k x hx
  have x1 : (k : Int) < (l.length : Int) := by omega
  have HR := iH hx
  clear hx
  by_cases h0 : x = 0
  ·subst h0
   go_wp2
   go_round
   case rel =>
    refine ⟨k + 1, by go_num, by omega, iH (fun j y hj hy => ?_)⟩
    by_cases e : j = k
    ·subst e
     rw [HR.out] at hy
     cases hy
     rfl
    exact HX.out j y (by omega) hy
   case measure => simp [intOf]; omega
  have b1 : (x == 0) = false := by rw [beq_eq_false_iff_ne]; exact h0
  have R := iH (orI_hit HR.out h0 HX.out)
  go_wp2
  go_ret
  rw [R.out]
  exact ⟨rfl, rfl⟩
 have x1 : ¬ (k : Int) < (l.length : Int) := by omega
 have R := iH (orI_miss (l := l) (fun j y hy => HX.out j y (by have := (List.getElem?_eq_some_iff.1 hy).1; omega) hy))
 go_wp2
 go_ret
 rw [R.out]
 exact ⟨rfl, rfl⟩
theorem cmpT_any (x y : It) (w : World) : Calls Tryz.prog 156 #[.agg (encIt.cs x), .agg (encIt.cs y)] w fun e w' => e = .returned (.int .i64 (cmpT x y)) /\ Kept w w' [] := by
 obtain ⟨W2, hW2⟩ : ∃ W2, W2 = (w.alloc (.cells (encIt.cs x) 173)).alloc (.cells (encIt.cs y) 173) := ⟨_, rfl⟩
 have k2 : Kept w W2 [] := by rw [hW2]; exact ((Kept.refl w []).alloc _).alloc _
 have hz : (w.alloc (.cells (encIt.cs x) 173)).heap.size = w.heap.size + 1 := by simp
 have g1 : W2.heap[w.heap.size]? = some (.cells (encIt.cs x) 173 (0, 0)) := by rw [hW2]; exact ((Kept.refl _ []).alloc _).heap (by simp) (heap_alloc_new w _)
 have g2 : W2.heap[w.heap.size + 1]? = some (.cells (encIt.cs y) 173 (0, 0)) := by rw [hW2, <- hz]; exact heap_alloc_new _ _
 have CX := iH (fun V (hV : Kept W2 V []) => (show V.cell? ⟨w.heap.size, 0, none⟩ = some (.int .i64 x.a) /\ V.cell? ⟨w.heap.size, 1, none⟩ = some (.int .i64 x.e.id) /\ V.cell? ⟨w.heap.size, 3, none⟩ = some (.string x.e.ow) /\
  V.cell? ⟨w.heap.size + 1, 0, none⟩ = some (.int .i64 y.a) /\ V.cell? ⟨w.heap.size + 1, 1, none⟩ = some (.int .i64 y.e.id) /\ V.cell? ⟨w.heap.size + 1, 3, none⟩ = some (.string y.e.ow) from
  ⟨by rw [cell_of_row _ _ _ _ _ _ (hV.heap (by simp) g1)]; rfl, by rw [cell_of_row _ _ _ _ _ _ (hV.heap (by simp) g1)]; rfl, by rw [cell_of_row _ _ _ _ _ _ (hV.heap (by simp) g1)]; rfl,
   by rw [cell_of_row _ _ _ _ _ _ (hV.heap (by simp) g2)]; rfl, by rw [cell_of_row _ _ _ _ _ _ (hV.heap (by simp) g2)]; rfl, by rw [cell_of_row _ _ _ _ _ _ (hV.heap (by simp) g2)]; rfl⟩))
 have CT := iH (show cmpT x y = orI [cmpI x.a y.a, cmpI x.e.id y.e.id, cmpS x.e.ow y.e.ow] from rfl)
 have K2 := iH k2; have HW2 := iH hW2
 obtain ⟨b0, ⟨b1, b2, b3, b4, b5, b6, b7, b8⟩⟩ := x
 obtain ⟨d0, ⟨d1, d2, d3, d4, d5, d6, d7, d8⟩⟩ := y
 rw [CT.out]
 obtain ⟨n0, hn0⟩ : ∃ n0, cmpI b0 d0 = n0 := ⟨_, rfl⟩
 obtain ⟨n1, hn1⟩ : ∃ n1, cmpI b1 d1 = n1 := ⟨_, rfl⟩
 obtain ⟨n2, hn2⟩ : ∃ n2, cmpS b3 d3 = n2 := ⟨_, rfl⟩
 have C0 := iH (cmpI_any b0 d0); have C1 := iH (cmpI_any b1 d1); have C2 := iH (cmpS_any b3 d3)
 rw [hn0] at C0; rw [hn1] at C1; rw [hn2] at C2
 simp only [hn0, hn1, hn2]
 clear CT hz g1 g2 k2 hW2 hn0 hn1 hn2
 simp only [encIt, It.cs] at HW2 CX ⊢
 go_enter Tryz.func156, Tryz.ntmps156
 go_upto_region 1 with fail
 rw [<- HW2.out]
 refine wp_region_held_drew (S := fun Z => Kept W2 Z []) (by kernel_rfl) (Kept.refl W2 []).drew (fun hJ => ?_)
 refine wx 0 5 (.pointer (some ⟨w.heap.size, 0, none⟩)) rfl hJ ?_
 refine wx 1 6 (.int .i64 b0) rfl hJ ?_ (hy := fun V hV => by (obtain ⟨c0, c1, c2, c3, c4, c5⟩ := CX.out V hV; clear hV; go_simp))
 refine wx 2 7 (.pointer (some ⟨w.heap.size + 1, 0, none⟩)) rfl hJ ?_
 refine wx 3 8 (.int .i64 d0) rfl hJ ?_ (hy := fun V hV => by (obtain ⟨c0, c1, c2, c3, c4, c5⟩ := CX.out V hV; clear hV; go_simp))
 refine wx 5 10 (.pointer (some ⟨w.heap.size, 1, none⟩)) rfl hJ ?_
 refine wx 6 11 (.pointer (some ⟨w.heap.size, 1, none⟩)) rfl hJ ?_
 refine wx 7 12 (.int .i64 b1) rfl hJ ?_ (hy := fun V hV => by (obtain ⟨c0, c1, c2, c3, c4, c5⟩ := CX.out V hV; clear hV; go_simp))
 refine wx 8 13 (.pointer (some ⟨w.heap.size + 1, 1, none⟩)) rfl hJ ?_
 refine wx 9 14 (.pointer (some ⟨w.heap.size + 1, 1, none⟩)) rfl hJ ?_
 refine wx 10 15 (.int .i64 d1) rfl hJ ?_ (hy := fun V hV => by (obtain ⟨c0, c1, c2, c3, c4, c5⟩ := CX.out V hV; clear hV; go_simp))
 refine wx 12 17 (.pointer (some ⟨w.heap.size, 1, none⟩)) rfl hJ ?_
 refine wx 13 18 (.pointer (some ⟨w.heap.size, 3, none⟩)) rfl hJ ?_
 refine wx 14 19 (.string b3) rfl hJ ?_ (hy := fun V hV => by (obtain ⟨c0, c1, c2, c3, c4, c5⟩ := CX.out V hV; clear hV; go_simp))
 refine wx 15 20 (.pointer (some ⟨w.heap.size + 1, 1, none⟩)) rfl hJ ?_
 refine wx 16 21 (.pointer (some ⟨w.heap.size + 1, 3, none⟩)) rfl hJ ?_
 refine wx 17 22 (.string d3) rfl hJ ?_ (hy := fun V hV => by (obtain ⟨c0, c1, c2, c3, c4, c5⟩ := CX.out V hV; clear hV; go_simp))
 refine wr1 4 rfl (fun K hK => ?_)
 go_simp
 go_at_call 89
 refine (C0.out _).mono ?_
 rintro e wa ⟨rfl, rfl⟩
 go_wp2_with fail
 refine hK.out _ _ (Kept.refl W2 []).drew (fun hJ => ?_)
 clear hK K
 refine wr1 11 rfl (fun K hK => ?_)
 go_simp
 go_at_call 89
 refine (C1.out _).mono ?_
 rintro e wa ⟨rfl, rfl⟩
 go_wp2_with fail
 refine hK.out _ _ (Kept.refl W2 []).drew (fun hJ => ?_)
 clear hK K
 refine wr1 18 rfl (fun K hK => ?_)
 go_simp
 go_at_call 191
 refine (C2.out _).mono ?_
 rintro e wa ⟨rfl, rfl⟩
 go_wp2_with fail
 refine hK.out _ _ (Kept.refl W2 []).drew (fun hJ => ?_)
 clear hK K
 obtain ⟨W3, hW3⟩ : ∃ W3, W3 = (W2.alloc (.cells #[.int .i64 n0, .int .i64 n1, .int .i64 n2] 3)).drew := ⟨_, rfl⟩
 have k3 : Kept W2 W3 [] := by rw [hW3]; exact ((Kept.refl W2 []).alloc _).drew
 have g3 : W3.heap[W2.heap.size]? = some (.cells #[.int .i64 n0, .int .i64 n1, .int .i64 n2] 3 (0, 0)) := by rw [hW3]; exact heap_alloc_new W2 _
 have OR := iH (fun c => or_any [n0, n1, n2] (by simp) c W2.heap.size W3 (fun k x hk => by rw [cell_of_row _ _ _ _ _ _ g3]; rcases k with _ | _ | _ | k <;> simp at hk ⊢ <;> exact hk))
 have HW3 := iH hW3; have K3 := iH k3
 clear hW3 k3 g3
 refine wr1 19 rfl (fun K hK => ?_)
 go_simp
 rw [<- HW3.out]
 refine hK.out _ _ K3.out (fun hJ => ?_)
 clear hK K
 refine wr1 20 rfl (fun K hK => ?_)
 go_simp
 go_at_call 190
 refine (OR.out _).mono ?_
 rintro e wa ⟨rfl, rfl⟩
 go_wp2_with fail
 refine hK.out _ _ K3.out (fun hJ => ?_)
 clear hK K
 refine wx 21 4 (.int .i64 (orI [n0, n1, n2])) rfl hJ ?_
 refine wd ?_
 clear hJ
 go_wp2
 go_ret
 exact ⟨rfl, K2.out.trans K3.out (by simp)⟩
theorem waitsP_any (x : It) (id : Int) (ow : ByteArray) (p q : Nat) (w : World) (h1 : w.cell? ⟨p, 0, none⟩ = some (.int .i64 id)) (h2 : w.cell? ⟨q, 0, none⟩ = some (.string ow)) :
 Calls Tryz.prog 189 #[.agg (encIt.cs x), .pointer (some ⟨p, 0, none⟩), .pointer (some ⟨q, 0, none⟩)] w fun e w' => e = .returned (.bool (isK id ow x)) /\ Kept w w' [] := by
 have R := iH (show isK id ow x = (x.e.id == id && x.e.ow.toList == ow.toList) from rfl)
 rw [R.out]
 have hy1 : (w.alloc (.cells (encIt.cs x) 173)).cell? ⟨p, 0, none⟩ = some (.int .i64 id) := ((Kept.refl w []).alloc _).cell (by simp) h1
 have hy2 : (w.alloc (.cells (encIt.cs x) 173)).cell? ⟨q, 0, none⟩ = some (.string ow) := ((Kept.refl w []).alloc _).cell (by simp) h2
 clear R
 obtain ⟨b0, ⟨b1, b2, b3, b4, b5, b6, b7, b8⟩⟩ := x
 simp only [encIt, It.cs] at *
 by_cases h0 : b1 = id
 ·subst h0
  go_enter Tryz.func189, Tryz.ntmps189
  go_wp2
  go_ret
  exact ⟨by simp, (Kept.refl w []).alloc _⟩
 ·have hb : (b1 == id) = false := by simpa using h0
  rw [hb]
  go_enter Tryz.func189, Tryz.ntmps189
  go_wp2
  go_ret
  exact ⟨by simp, (Kept.refl w []).alloc _⟩
theorem dropP_any (x : It) (ow : ByteArray) (q : Nat) (w : World) (h2 : w.cell? ⟨q, 0, none⟩ = some (.string ow)) :
 Calls Tryz.prog 163 #[.agg (encIt.cs x), .pointer (some ⟨q, 0, none⟩)] w fun e w' => e = .returned (.bool (x.e.ow.toList == ow.toList)) /\ Kept w w' [] := by
 have hy2 : (w.alloc (.cells (encIt.cs x) 173)).cell? ⟨q, 0, none⟩ = some (.string ow) := ((Kept.refl w []).alloc _).cell (by simp) h2
 obtain ⟨b0, ⟨b1, b2, b3, b4, b5, b6, b7, b8⟩⟩ := x
 simp only [encIt, It.cs] at *
 go_enter Tryz.func163, Tryz.ntmps163
 go_wp2
 go_ret
 exact ⟨rfl, (Kept.refl w []).alloc _⟩
abbrev rtT : TypeId := 175
abbrev rtE : TypeId := 173
abbrev evT : TypeId := 50
variable {w w' : World} {B h : Nat} {V : Value} {l : List It}
theorem tnew_any (w : World) : Calls Tryz.prog 77 #[] w fun e w' => e = .returned (.pointer (some ⟨w.heap.size, 0, none⟩)) /\ Ls encIt rtT rtE w' w.heap.size w.heap.size (.slice none 0 0) [] /\ Kept w w' [] := by
 go_enter Tryz.func77, Tryz.ntmps77
 go_wp2
 go_ret
 exact ⟨rfl, ⟨heap_alloc_new w _, Nat.le_refl _, by decide, OwnK.nil _ _ _⟩, (Kept.refl w []).alloc _⟩
theorem tall_any (a : Ls encIt rtT rtE w B h V l) (hl : l.length <= 1000) : Calls Tryz.prog 70 #[.pointer (some ⟨h, 0, none⟩)] w fun e w' => ∃ v', e = .returned v' /\ OwnK encIt w' w.heap.size rtE v' l /\ Kept w w' [] := by
 obtain ⟨u, c, e⟩ := a.shape
 have c0 := a.cell.1
 have CL := iH (rclone_any V l w a.own.rd hl)
 rw [e] at c0 CL
 clear a e
 go_enter Tryz.func70, Tryz.ntmps70
 go_wp2_with fail
 refine CL.out.mono ?_
 rintro e w2 ⟨v', rfl, ho, hk⟩
 have Ho := iH ho; have Hk := iH hk
 clear ho hk
 go_wp2
 go_ret
 exact ⟨_, rfl, Ho.out, Hk.out⟩
theorem twaits_any (a : Ls encIt rtT rtE w B h V l) (hl : l.length <= 1000) (id : Int) (ow : ByteArray) : Calls Tryz.prog 153 #[.pointer (some ⟨h, 0, none⟩), .int .i64 id, .string ow] w fun e w' => e = .returned (.bool (l.any (isK id ow))) /\ Kept w w' [] := by
 obtain ⟨W2, hW2⟩ : ∃ W2, W2 = (w.alloc (.cells #[.int .i64 id] 2)).alloc (.cells #[.string ow] 9) := ⟨_, rfl⟩
 have k2 : Kept w W2 [] := by rw [hW2]; exact ((Kept.refl w []).alloc _).alloc _
 have hz : (w.alloc (.cells #[.int .i64 id] 2)).heap.size = w.heap.size + 1 := by simp
 have g1 : W2.heap[w.heap.size]? = some (.cells #[.int .i64 id] 2 (0, 0)) := by rw [hW2]; exact ((Kept.refl _ []).alloc _).heap (by simp) (heap_alloc_new w _)
 have g2 : W2.heap[w.heap.size + 1]? = some (.cells #[.string ow] 9 (0, 0)) := by rw [hW2, <- hz]; exact heap_alloc_new _ _
 obtain ⟨u, c, e⟩ := a.shape
 have a2 := a.keep k2
 have c0 := a2.cell.1
 have hP : PaysP_r W2 (fun _ => False) 189 #[.pointer (some ⟨w.heap.size, 0, none⟩), .pointer (some ⟨w.heap.size + 1, 0, none⟩)] (isK id ow) := fun r V hV =>
  waitsP_any r id ow w.heap.size (w.heap.size + 1) V (by rw [cell_of_row _ _ _ _ _ _ (hV.heap (fun x => x) g1)]; rfl) (by rw [cell_of_row _ _ _ _ _ _ (hV.heap (fun x => x) g2)]; rfl)
 have CT := iH (rcontains_any a2.own.rd (by omega) _ _ _ (enters_of Tryz.func189 (by kernel_rfl) rfl) _ hP)
 rw [e] at c0 CT
 have HW2 := iH hW2; have K2 := iH k2
 clear a e a2 hz g1 g2 hP hW2 k2
 go_enter Tryz.func153, Tryz.ntmps153
 go_upto_region 1 with fail
 rw [<- HW2.out]
 go_wp2_with fail
 refine CT.out.mono ?_
 rintro e w2 ⟨rfl, hk⟩
 have Hk := iH hk
 clear hk
 go_wp2
 go_ret
 exact ⟨rfl, K2.out.trans Hk.out (by simp)⟩
def agn (e : Ev) (ow : ByteArray) : Ev := ⟨e.id, e.tx, ow, trN e.tr, e.tb, e.kd, e.key, e.t⟩
theorem tagain_any (e : Ev) (ow : ByteArray) (hb : -9223372036854775808 <= e.tr) (w : World) : Calls Tryz.prog 154 #[.agg (encEv.cs e), .string ow] w fun r w' => r = .returned (.agg (encEv.cs (agn e ow))) /\ Kept w w' [] := by
 obtain ⟨b0, b1, b2, b3, b4, b5, b6, b7⟩ := e
 simp only [encEv, Ev.cs, agn] at *
 by_cases h0 : b3 < 2147483647
 ·have e1 : trN b3 = b3 + 1 := by rw [trN, if_pos h0]
  have e2 : wrap64 (b3 + 1) = b3 + 1 := by unfold wrap64; omega
  rw [e1]
  clear e1 hb
  go_enter Tryz.func154, Tryz.ntmps154
  go_wp2
  refine bodyPost_ret (v := .agg #[.int .i64 b0, .int .i64 b1, .string ow, .int .i64 (b3 + 1), .int .i64 b4, .int .u8 b5, .int .i64 b6, .string b7]) (by simp [results, Tryz.results154, go_sem, *]) rfl ?_
  refine ⟨rfl, ?_⟩
  repeat' (first | exact Kept.refl _ _ | refine Kept.alloc ?_ _ | refine Kept.setCell ?_ (.inr (by show w.heap.size <= _; first | exact Nat.le_refl _ | exact Nat.le_succ _ | (simp; done))) _)
 have e1 : trN b3 = b3 := by rw [trN, if_neg h0]
 rw [e1]
 clear e1 hb
 go_enter Tryz.func154, Tryz.ntmps154
 go_wp2
 refine bodyPost_ret (v := .agg #[.int .i64 b0, .int .i64 b1, .string ow, .int .i64 b3, .int .i64 b4, .int .u8 b5, .int .i64 b6, .string b7]) (by simp [results, Tryz.results154, go_sem, *]) rfl ?_
 refine ⟨rfl, ?_⟩
 repeat' (first | exact Kept.refl _ _ | refine Kept.alloc ?_ _ | refine Kept.setCell ?_ (.inr (by show w.heap.size <= _; first | exact Nat.le_refl _ | exact Nat.le_succ _ | (simp; done))) _)
variable {w w' : World} {B h : Nat} {V : Value} {l : List It}
theorem place_cut (h : Rise ltI l) (T : It) : Cutp (fun x => decide (cmpT x T < 0)) l := by
 refine List.Pairwise.imp (fun {x y} hxy => ?_) h
 intro hy
 have hy2 : ltI y T = true := by rw [<- cmpT_lt]; exact hy
 show decide (cmpT x T < 0) = true
 rw [cmpT_lt]
 exact ltI_ord.tr _ _ _ hxy hy2
theorem place_ins (ok : OkI l) {T : It} (hn : ∀ x ∈ l, ¬ (x.e.id = T.e.id /\ x.e.ow = T.e.ow)) : l.take (l.countP fun x => decide (cmpT x T < 0)) ++ T :: l.drop (l.countP fun x => decide (cmpT x T < 0)) = insG ltI T l := by
 obtain ⟨s1, s2⟩ := cut_spec (place_cut ok.rise T)
 refine insG_at ltI_ord ok.rise List.countP_le_length (fun j y hj hy => ?_) (fun y h0 hy => ?_)
 ·have h1 := s2 j y hj hy
  rw [cmpT_lt] at h1
  cases hc : ltI T y with
  | true => rfl
  | false =>
  obtain ⟨_, e2, e3⟩ := ltI_tri h1 hc
  exact absurd ⟨e2, e3⟩ (hn y (List.mem_of_getElem? hy))
 have h1 := s1 _ y (by omega) hy
 rw [cmpT_lt] at h1
 exact ltI_ord.asymm h1
def ChgT (w : World) (B h : Nat) (V : Value) (r : Value) (m : List It) (x : Ending) (w' : World) : Prop :=
 x = .returned r /\ ∃ V', Ls encIt rtT rtE w' B h V' m /\ Stp (xqJ h V) (xqJ h V') w w'
theorem tadd_any (a : Ls encIt rtT rtE w B h V l) (ok : OkI l) (e : Ev) (hb : -9223372036854775808 <= e.tr) (ow : ByteArray) (at' : Int) : Calls Tryz.prog 101 #[.pointer (some ⟨h, 0, none⟩), .agg (encEv.cs e), .string ow, .int .i64 at'] w (ChgT w B h V (.int .i64 (adiE l e.id ow)) (adiL l e ow at')) := by
 obtain ⟨W1, hW1⟩ : ∃ W1, W1 = w.alloc (.cells (encEv.cs e) evT) := ⟨_, rfl⟩
 have k1 : Kept w W1 [] := by rw [hW1]; exact (Kept.refl w []).alloc _
 obtain ⟨z, hz⟩ : ∃ z, z = w.heap.size := ⟨_, rfl⟩
 have g1 : W1.heap[z]? = some (.cells (encEv.cs e) evT (0, 0)) := by rw [hW1, hz]; exact heap_alloc_new w _
 have few := ok.few
 have WT := iH (twaits_any (a.keep k1) (by omega) e.id ow)
 have AG := iH (fun W => tagain_any e ow hb W)
 have A := iH a; have OK := iH ok; have K1 := iH k1; have G1 := iH g1; have HW1 := iH hW1; have HZ := iH hz
 obtain ⟨u, c, ev⟩ := a.shape
 have EV := iH ev
 have ADX := iH (show encIt.cs (addX e ow at') = #[.int .i64 at', .int .i64 e.id, .int .i64 e.tx, .string ow, .int .i64 (trN e.tr), .int .i64 e.tb, .int .u8 e.kd, .int .i64 e.key, .string e.t] from rfl)
 obtain ⟨X, hX⟩ : ∃ X, X = addX e ow at' := ⟨_, rfl⟩
 have hXe : X.e.id = e.id /\ X.e.ow = ow := by rw [hX]; exact ⟨rfl, rfl⟩
 have hEs : adiE l e.id ow = if ow.size < 1 then 1 else if l.any (isK e.id ow) then 5 else if 16 <= l.length then 8 else 0 := rfl
 have hLs : adiL l e ow at' = if adiE l e.id ow = 0 then insG ltI X l else l := by rw [hX]; rfl
 rw [<- hX] at ADX
 rw [hLs, hEs]
 have HXE := iH hXe
 obtain ⟨b0, b1, b2, b3, b4, b5, b6, b7⟩ := e
 simp only [encEv, Ev.cs, agn] at *
 clear hEs hLs hX hXe k1 g1 hW1 hz a ok ev hb
 by_cases hE : ow.size = 0
 ·have hE1 := toList_nil hE
  rw [if_pos (by omega), if_neg (by decide)]
  clear hE few
  go_enter Tryz.func101, Tryz.ntmps101
  go_wp2
  go_ret
  exact ⟨rfl, V, A.out.keep ((Kept.refl w []).alloc _), Stp.ofK ((Kept.refl w []).alloc _)⟩
 obtain ⟨hE1, hE2⟩ := toList_ne hE
 rw [if_neg (show ¬ ow.size < 1 by omega)]
 cases hp : l.any (isK b0 ow) with
 | true =>
 rw [if_pos rfl, if_neg (by decide)]
 rw [hp] at WT
 clear hE hp few
 go_enter Tryz.func101, Tryz.ntmps101
 go_upto_region 1 with fail
 rw [<- HW1.out, <- HZ.out]
 have c0 : W1.cell? ⟨z, 0, none⟩ = some (.int .i64 b0) := by rw [cell_of_row _ _ _ _ _ _ G1.out]; rfl
 go_wp2_with fail
 refine WT.out.mono ?_
 rintro r w2 ⟨rfl, k2⟩
 have K2 := iH (K1.out.trans k2 (by simp))
 clear k2
 go_wp2
 go_ret
 exact ⟨rfl, V, A.out.keep K2.out, Stp.ofK K2.out⟩
 | false =>
 rw [if_neg (by decide)]
 rw [hp] at WT
 have NB := iH (show ∀ x ∈ l, ¬ (x.e.id = b0 /\ x.e.ow = ow) from fun x hx hc => by
  have := List.any_eq_false.1 hp x hx
  exact this (isK_iff.2 hc))
 by_cases hf : 16 <= l.length
 ·have hf1 : (16 : Int) <= (l.length : Int) := by omega
  rw [if_pos hf, if_neg (by decide)]
  clear hE hp few hf
  go_enter Tryz.func101, Tryz.ntmps101
  go_upto_region 1 with fail
  rw [<- HW1.out, <- HZ.out]
  have c0 : W1.cell? ⟨z, 0, none⟩ = some (.int .i64 b0) := by rw [cell_of_row _ _ _ _ _ _ G1.out]; rfl
  go_wp2_with fail
  refine WT.out.mono ?_
  rintro r w2 ⟨rfl, k2⟩
  have K2 := iH (K1.out.trans k2 (by simp))
  have v0 := (A.out.keep K2.out).cell.1
  rw [EV.out] at v0
  clear k2 c0
  go_wp2
  go_ret
  exact ⟨rfl, V, A.out.keep K2.out, Stp.ofK K2.out⟩
 have hf1 : ¬ (16 : Int) <= (l.length : Int) := by omega
 rw [if_neg hf, if_pos rfl]
 have HLN := iH (show l.length <= 16 by omega)
 clear hE hp few hf
 go_enter Tryz.func101, Tryz.ntmps101
 go_upto_region 1 with fail
 rw [<- HW1.out, <- HZ.out]
 have c0 : W1.cell? ⟨z, 0, none⟩ = some (.int .i64 b0) := by rw [cell_of_row _ _ _ _ _ _ G1.out]; rfl
 go_wp2_with fail
 refine WT.out.mono ?_
 rintro r w2 ⟨rfl, k2⟩
 have K2 := iH (K1.out.trans k2 (by simp))
 have v0 := (A.out.keep K2.out).cell.1
 rw [EV.out] at v0
 have g2 := k2.heap (by simp) G1.out
 obtain ⟨d0, d1, d2, d3, d4, d5, d6, d7⟩ : w2.cell? ⟨z, 0, none⟩ = some (.int .i64 b0) /\ w2.cell? ⟨z, 1, none⟩ = some (.int .i64 b1) /\ w2.cell? ⟨z, 2, none⟩ = some (.string b2) /\ w2.cell? ⟨z, 3, none⟩ = some (.int .i64 b3) /\ w2.cell? ⟨z, 4, none⟩ = some (.int .i64 b4) /\ w2.cell? ⟨z, 5, none⟩ = some (.int .u8 b5) /\ w2.cell? ⟨z, 6, none⟩ = some (.int .i64 b6) /\ w2.cell? ⟨z, 7, none⟩ = some (.string b7) :=
  ⟨by rw [cell_of_row _ _ _ _ _ _ g2]; rfl, by rw [cell_of_row _ _ _ _ _ _ g2]; rfl, by rw [cell_of_row _ _ _ _ _ _ g2]; rfl, by rw [cell_of_row _ _ _ _ _ _ g2]; rfl, by rw [cell_of_row _ _ _ _ _ _ g2]; rfl, by rw [cell_of_row _ _ _ _ _ _ g2]; rfl, by rw [cell_of_row _ _ _ _ _ _ g2]; rfl, by rw [cell_of_row _ _ _ _ _ _ g2]; rfl⟩
 clear k2 c0 g2
 go_wp2_with fail
 refine (AG.out w2).mono ?_
 rintro r w3 ⟨rfl, k3⟩
 have K3 := iH (K2.out.trans k3 (by simp))
 clear k3 v0 d0 d1 d2 d3 d4 d5 d6 d7
 obtain ⟨x, hx⟩ : ∃ x, x = w3.heap.size := ⟨_, rfl⟩
 obtain ⟨W4, hW4⟩ : ∃ W4, W4 = w3.alloc (.cells #[.int .i64 at', .int .i64 b0, .int .i64 b1, .string ow, .int .i64 (trN b3), .int .i64 b4, .int .u8 b5, .int .i64 b6, .string b7] rtE) := ⟨_, rfl⟩
 have k4 : Kept w3 W4 [] := by rw [hW4]; exact (Kept.refl w3 []).alloc _
 have g4 : W4.heap[x]? = some (.cells (encIt.cs X) rtE (0, 0)) := by rw [ADX.out, hW4, hx]; exact heap_alloc_new w3 _
 have a4 := A.out.keep (K3.out.trans k4 (by simp))
 have hxw : w.heap.size <= x := by have := K3.out.size; omega
 have K4 := iH (K3.out.trans k4 (by simp)); have G4 := iH g4; have A4 := iH a4; have HW4 := iH hW4; have HX := iH hx; have HXW := iH hxw
 have XC := iH (fun (V : World) (g : V.heap[x]? = some (.cells (encIt.cs X) rtE (0, 0))) => (show V.cell? ⟨x, 0, none⟩ = some (.int .i64 at') /\ V.cell? ⟨x, 1, none⟩ = some (.int .i64 b0) /\ V.cell? ⟨x, 2, none⟩ = some (.int .i64 b1) /\ V.cell? ⟨x, 3, none⟩ = some (.string ow) /\ V.cell? ⟨x, 4, none⟩ = some (.int .i64 (trN b3)) /\ V.cell? ⟨x, 5, none⟩ = some (.int .i64 b4) /\ V.cell? ⟨x, 6, none⟩ = some (.int .u8 b5) /\ V.cell? ⟨x, 7, none⟩ = some (.int .i64 b6) /\ V.cell? ⟨x, 8, none⟩ = some (.string b7) from by
  rw [ADX.out] at g
  exact ⟨by rw [cell_of_row _ _ _ _ _ _ g]; rfl, by rw [cell_of_row _ _ _ _ _ _ g]; rfl, by rw [cell_of_row _ _ _ _ _ _ g]; rfl, by rw [cell_of_row _ _ _ _ _ _ g]; rfl, by rw [cell_of_row _ _ _ _ _ _ g]; rfl, by rw [cell_of_row _ _ _ _ _ _ g]; rfl, by rw [cell_of_row _ _ _ _ _ _ g]; rfl, by rw [cell_of_row _ _ _ _ _ _ g]; rfl, by rw [cell_of_row _ _ _ _ _ _ g]; rfl⟩))
 have SE := iH (fun V' (hV : Kept W4 V' []) => rsearch_any V l V' (a4.keep hV).own (by have := HLN.out; omega) X 156 #[] (fun y => cmpT y X) (enters_of Tryz.func156 (by kernel_rfl) rfl) (fun y V'' hV'' => by simpa using cmpT_any y X V'') (place_cut OK.out.rise X))
 have VC := iH (fun V' (hV : Kept W4 V' []) => (show V'.cell? ⟨h, 0, none⟩ = some (.slice u l.length c) from by rw [<- EV.out]; exact (a4.keep hV).cell.1))
 rw [EV.out, ADX.out] at SE
 obtain ⟨P0, hP0⟩ : ∃ P0 : Nat, P0 = (l.countP fun y => decide (cmpT y X < 0)) := ⟨_, rfl⟩
 rw [<- hP0] at SE
 have HP0 := iH (show P0 <= l.length by rw [hP0]; exact List.countP_le_length)
 have INS := iH (show l.take P0 ++ X :: l.drop P0 = insG ltI X l by rw [hP0]; exact place_ins OK.out (fun y hy hc => NB.out y hy (by rw [HXE.out.1, HXE.out.2] at hc; exact hc)))
 obtain ⟨bz, hbz⟩ : ∃ bz, bz = hitG_r (fun y => cmpT y X) l[P0]? := ⟨_, rfl⟩
 rw [<- hbz] at SE
 clear k4 g4 a4 hxw hW4 hx hP0 hbz
 go_upto_region 10 with fail
 rw [<- HW4.out, <- HX.out]
 refine wp_region_held_drew (S := fun Z => Kept W4 Z []) (by kernel_rfl) (Kept.refl W4 []).drew (fun hJ => ?_)
 refine wx 0 37 (.pointer (some ⟨h, 0, none⟩)) rfl hJ ?_
 refine wx 1 38 (.pointer (some ⟨h, 0, none⟩)) rfl hJ ?_
 refine wx 2 39 (.pointer (some ⟨h, 0, none⟩)) rfl hJ ?_
 refine wx 3 40 (.slice u l.length c) rfl hJ ?_ (hy := fun V hV => by (have v0 := VC.out V hV; clear hV; go_simp))
 refine wx 4 41 (.agg #[.int .i64 at', .int .i64 b0, .int .i64 b1, .string ow, .int .i64 (trN b3), .int .i64 b4, .int .u8 b5, .int .i64 b6, .string b7]) rfl hJ ?_ (hy := fun V hV => by (obtain ⟨c0, c1, c2, c3, c4, c5, c6, c7, c8⟩ := XC.out V (hV.heap (by simp) G4.out); clear hV; go_simp))
 refine wr1 5 rfl (fun K hK => ?_)
 go_simp
 go_at_call 155
 refine (SE.out _ (Kept.refl W4 []).drew).mono ?_
 rintro r w5 ⟨rfl, k5⟩
 have k5 := (Kept.refl W4 []).drew.trans k5 (by simp)
 go_wp2_with fail
 refine hK.out _ _ k5 (fun hJ => ?_)
 clear hK K
 refine wx 6 36 (.tuple #[.int .i64 P0, .bool bz]) rfl hJ ?_
 refine wx 7 43 (.int .i64 P0) rfl hJ ?_
 refine wx 8 44 (.bool bz) rfl hJ ?_
 refine wx 9 10 (.int .i64 P0) rfl hJ ?_
 refine wx 10 11 (.bool bz) rfl hJ ?_
 refine wd ?_
 clear hJ
 have a5 := A4.out.keep k5
 have g5 := k5.heap (by simp) G4.out
 obtain ⟨W6, hW6⟩ : ∃ W6, W6 = (w5.alloc (.cells #[.int .i64 at', .int .i64 b0, .int .i64 b1, .string ow, .int .i64 (trN b3), .int .i64 b4, .int .u8 b5, .int .i64 b6, .string b7] rtE)).drew := ⟨_, rfl⟩
 have k6 : Kept w5 W6 [] := by rw [hW6]; exact ((Kept.refl w5 []).alloc _).drew
 have g6 : W6.heap[w5.heap.size]? = some (.cells (encIt.cs X) rtE (0, 0)) := by rw [ADX.out, hW6]; exact heap_alloc_new w5 _
 have a6 := a5.keep k6
 have gx6 := k6.heap (by simp) g5
 have hVx : V.ownBlock ≠ some w5.heap.size := fun hk => by have := (a5.lt _ (.inr hk)).2; omega
 have IN := iH (rinsert_any (i := P0) (x := X) a6.own a6.size g6 hVx HP0.out (by have := HLN.out; omega))
 have hVz : V.ownBlock ≠ some x := fun hk => by have := (A.out.lt _ (.inr hk)).2; have := HXW.out; omega
 have hhz : ¬ x = h := fun hk => by have := (A.out.lt _ (.inl hk)).2; have := HXW.out; omega
 rw [EV.out] at IN
 have v5 : w5.drew.cell? ⟨h, 0, none⟩ = some (.slice u l.length c) := VC.out _ k5.drew
 have v6 : W6.cell? ⟨h, 0, none⟩ = some (.slice u l.length c) := VC.out _ (k5.trans k6 (by simp))
 have K5 := iH k5; have K6 := iH k6; have A6 := iH a6; have HW6 := iH hW6; have GX6 := iH gx6; have G5 := iH g5; have HVZ := iH hVz; have HHZ := iH hhz
 have V5 := iH v5; have V6 := iH v6
 clear k5 k6 a5 a6 g5 g6 gx6 hVx hW6 hVz hhz v5 v6
 go_upto_region 11 with fail
 refine wp_region_held_drew (S := fun Z => Z.heap[x]? = some (.cells (encIt.cs X) rtE (0, 0))) (by kernel_rfl) G5.out (fun hJ => ?_)
 refine wx 0 45 (.pointer (some ⟨h, 0, none⟩)) rfl hJ ?_
 refine wx 1 46 (.pointer (some ⟨h, 0, none⟩)) rfl hJ ?_
 refine wx 2 47 (.pointer (some ⟨h, 0, none⟩)) rfl hJ ?_
 refine wx 3 48 (.pointer (some ⟨h, 0, none⟩)) rfl hJ ?_
 refine wx 5 50 (.int .i64 P0) rfl hJ ?_
 refine wx 6 51 (.agg #[.int .i64 at', .int .i64 b0, .int .i64 b1, .string ow, .int .i64 (trN b3), .int .i64 b4, .int .u8 b5, .int .i64 b6, .string b7]) rfl hJ ?_ (hy := fun V hV => by (obtain ⟨c0, c1, c2, c3, c4, c5, c6, c7, c8⟩ := XC.out V hV; clear hV; go_simp))
 refine wpAnyH_ready (rs := [4, 7]) (by kernel_rfl) (by simp) ?_
 refine AllReadyH.cons (o := _) rfl (fun K hK => ?_) (AllReadyH.cons (o := _) rfl (fun K hK => ?_) AllReadyH.nil)
 ·have v5 := V5.out
  go_simp
  refine hK.out _ _ G5.out (fun hJ => ?_)
  clear hK K v5
  refine wr1 7 rfl (fun K hK => ?_)
  go_simp
  rw [<- HW6.out]
  refine hK.out _ _ GX6.out (fun hJ => ?_)
  clear hK K
  refine wr1 8 rfl (fun K hK => ?_)
  go_simp
  go_at_call 157
  refine IN.out.mono ?_
  rintro r w7 ⟨v', rfl, ho, hfo, hv⟩
  rw [<- EV.out] at hfo hv
  obtain ⟨L', hL'⟩ : ∃ L', L' = (List.take P0 l ++ X :: List.drop P0 l).length := ⟨_, rfl⟩
  obtain ⟨u', c', hv'⟩ := ho.shape
  rw [<- hL'] at hv'
  subst hv'
  clear hL'
  obtain ⟨⟨q4, f4⟩, a7, s7⟩ := A6.out.lay hfo ho hv
  have g7 := hfo.heap HVZ.out GX6.out
  have g8 : (w7.setCell ⟨h, 0, none⟩ (.slice u' L' c')).heap[x]? = some (.cells (encIt.cs X) rtE (0, 0)) := (Fo.setCell (O := fun k => k = h) (Fo.refl _ w7) (p := ⟨h, 0, none⟩) (.inl rfl) _).heap HHZ.out g7
  rw [INS.out] at a7
  have A7 := iH a7; have S7 := iH s7; have G8 := iH g8
  rw [EV.out] at q4
  clear ho hfo hv a7 s7 g8
  go_wp2_with fail
  refine hK.out _ _ g7 (fun hJ => ?_)
  clear hK K
  refine wx 9 54 (.pointer (some ⟨h, 0, none⟩)) rfl hJ ?_
  refine wx 10 55 (.pointer (some ⟨h, 0, none⟩)) rfl hJ ?_
  refine wr1 11 rfl (fun K hK => ?_)
  go_simp
  refine hK.out _ _ G8.out (fun hJ => ?_)
  clear hK K
  refine wd ?_
  clear hJ f4 g7 q4
  go_wp2
  go_ret
  exact ⟨rfl, _, A7.out, (Stp.ofK ((K4.out.trans K5.out (by simp)).trans K6.out (by simp))).trans S7.out⟩
 go_simp
 rw [<- HW6.out]
 refine hK.out _ _ GX6.out (fun hJ => ?_)
 clear hK K
 refine wr1 4 rfl (fun K hK => ?_)
 have v6 := V6.out
 go_simp
 refine hK.out _ _ GX6.out (fun hJ => ?_)
 clear hK K v6
 refine wr1 8 rfl (fun K hK => ?_)
 go_simp
 go_at_call 157
 refine IN.out.mono ?_
 rintro r w7 ⟨v', rfl, ho, hfo, hv⟩
 rw [<- EV.out] at hfo hv
 obtain ⟨L', hL'⟩ : ∃ L', L' = (List.take P0 l ++ X :: List.drop P0 l).length := ⟨_, rfl⟩
 obtain ⟨u', c', hv'⟩ := ho.shape
 rw [<- hL'] at hv'
 subst hv'
 clear hL'
 obtain ⟨⟨q4, f4⟩, a7, s7⟩ := A6.out.lay hfo ho hv
 have g7 := hfo.heap HVZ.out GX6.out
 have g8 : (w7.setCell ⟨h, 0, none⟩ (.slice u' L' c')).heap[x]? = some (.cells (encIt.cs X) rtE (0, 0)) := (Fo.setCell (O := fun k => k = h) (Fo.refl _ w7) (p := ⟨h, 0, none⟩) (.inl rfl) _).heap HHZ.out g7
 rw [INS.out] at a7
 have A7 := iH a7; have S7 := iH s7; have G8 := iH g8
 rw [EV.out] at q4
 clear ho hfo hv a7 s7 g8
 go_wp2_with fail
 refine hK.out _ _ g7 (fun hJ => ?_)
 clear hK K
 refine wx 9 54 (.pointer (some ⟨h, 0, none⟩)) rfl hJ ?_
 refine wx 10 55 (.pointer (some ⟨h, 0, none⟩)) rfl hJ ?_
 refine wr1 11 rfl (fun K hK => ?_)
 go_simp
 refine hK.out _ _ G8.out (fun hJ => ?_)
 clear hK K
 refine wd ?_
 clear hJ f4 g7 q4
 go_wp2
 go_ret
 exact ⟨rfl, _, A7.out, (Stp.ofK ((K4.out.trans K5.out (by simp)).trans K6.out (by simp))).trans S7.out⟩
end Go.Proofs.YticiofkiffgclaaGreat
