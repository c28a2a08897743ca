/-
  The document's consumers: Find, Least, set.
-/
import Derived.Test.YtnoiomaoignndaaCug
import Derived.Deep.DeepCutAuto
namespace Go.Proofs.Ytnoiomaoignndaa
set_option linter.unusedVariables false
open Go.RowKit

abbrev rcT : TypeId := 29
abbrev rcE : TypeId := 59

theorem Try.infoRc : (Try.prog.info? 59).map (fun i => (i.zero, i.size, i.bytes)) = some (some (.agg #[.string ⟨#[]⟩, .int .i64 0, .int .i64 0]), 3, 32) := by kernel_rfl

/-- What Find tells. -/
def fnd (l : List Cu) (n : ByteArray) : Int := match plc l n with | some i => i | none => -1

variable {w w' : World} {B h : Nat} {V : Value} {l : List Cu}

set_option maxHeartbeats 2000000 in
set_option maxRecDepth 100000 in
theorem rfind_any (a : Cc rcT rcE w B h V l) (n : ByteArray) (hl : l.length ≤ 1000) : Calls Try.prog 21 #[.pointer (some ⟨h, 0, none⟩), .string n] w fun e w' => e = .returned (.int .i64 (fnd l n)) ∧ w' = w := by
  have A := Lib.hid a
  obtain ⟨u, c, e⟩ := a.shape
  have c0 := a.cell.1
  rw [e] at c0
  have EV := Lib.hid e
  clear a e
  go_enter Try.func21, Try.ntmps21
  go_wp2
  go_loop [5] (fun t => ∃ k : Nat, t = .int .i64 k ∧ k ≤ l.length ∧ Hid (∀ j y, j < k → l[j]? = some y → isN n y = false)) (fun t => l.length - (intOf t).toNat)
  case atStart => exact ⟨0, rfl, Nat.zero_le _, Lib.hid (fun j y hj => absurd hj (Nat.not_lt_zero _))⟩
  case round =>
    obtain ⟨k, rfl, hk, HX⟩ := hrel
    by_cases hlt : k < l.length
    · have x1 : (k : Int) < (l.length : Int) := by omega
      obtain ⟨x, hx⟩ : ∃ x, l[k]? = some x := ⟨_, List.getElem?_eq_getElem hlt⟩
      obtain ⟨g, c', hv, d, ⟨q0, q1, q2⟩, -⟩ := A.out.hit hx
      rw [EV.out] at hv
      simp only [Value.slice.injEq] at hv
      obtain ⟨rfl, -, -⟩ := hv
      have HY := Lib.hid hx
      clear d hx
      cases hc : isN n x with
      | true =>
        have R := Lib.hid (show fnd l n = k by rw [fnd, plc_hit HY.out hc HX.out])
        have x2 : (x.nm.toList == n.toList) = true := hc
        clear hc
        go_wp2
        go_ret
        rw [R.out]
        exact ⟨rfl, rfl⟩
      | false =>
        have x2 : (x.nm.toList == n.toList) = false := hc
        have HC := Lib.hid hc
        clear hc
        go_wp2
        go_round
        case rel =>
          refine ⟨k + 1, by go_num, by omega, Lib.hid (fun j y hj hy => ?_)⟩
          by_cases e : j = k
          · subst e
            rw [HY.out] at hy
            cases hy
            exact HC.out
          · exact HX.out j y (by omega) hy
        case measure => simp [intOf]; omega
    · have x1 : ¬ (k : Int) < (l.length : Int) := by omega
      have R := Lib.hid (show fnd l n = -1 by rw [fnd, plc_miss (fun j y hj => HX.out j y (by omega))])
      go_wp2
      go_ret
      rw [R.out]
      exact ⟨rfl, rfl⟩

set_option maxHeartbeats 2000000 in
set_option maxRecDepth 100000 in
theorem rlea_any (a : Cc rcT rcE w B h V l) (hl : l.length ≤ 1000) : Calls Try.prog 29 #[.pointer (some ⟨h, 0, none⟩)] w fun e w' => e = .returned (.tuple #[.int .i64 (leaN l), .bool (decide (0 < l.length))]) ∧ Kept w w' [] := by
  have A := Lib.hid a
  obtain ⟨u, c, e⟩ := a.shape
  have c0 := a.cell.1
  rw [e] at c0
  have EV := Lib.hid e
  obtain ⟨bz, hbz⟩ : ∃ bz : Bool, bz = decide (0 < l.length) := ⟨_, rfl⟩
  rw [← hbz]
  have HBZ := Lib.hid hbz
  clear a e hbz
  go_enter Try.func29, Try.ntmps29
  go_wp2
  go_loop [4, 5] (fun s t => ∃ (k : Nat) (m : Int), t = .int .i64 k ∧ s = .int .i64 m ∧ k ≤ l.length ∧ Hid (m = leaN (l.take k))) (fun _ t => l.length - (intOf t).toNat)
  case atStart => exact ⟨0, 0, rfl, rfl, Nat.zero_le _, Lib.hid rfl⟩
  case round =>
    obtain ⟨k, m, rfl, rfl, hk, HM⟩ := hrel
    by_cases hlt : k < l.length
    · have x1 : (k : Int) < (l.length : Int) := by omega
      obtain ⟨x, hx⟩ : ∃ x, l[k]? = some x := ⟨_, List.getElem?_eq_getElem hlt⟩
      obtain ⟨g, c', hv, d, ⟨q0, q1, q2⟩, -⟩ := A.out.hit hx
      rw [EV.out] at hv
      simp only [Value.slice.injEq] at hv
      obtain ⟨rfl, -, -⟩ := hv
      have ST := leaN_step hx
      rw [← HM.out] at ST
      obtain ⟨b, hb⟩ : ∃ b, b = x.la := ⟨_, rfl⟩
      rw [← hb] at q1 ST
      by_cases h0 : k = 0
      · subst h0
        have S := Lib.hid (show b = leaN (l.take (0 + 1)) by rw [ST, if_pos (.inl rfl)])
        rw [Nat.zero_mul] at q0
        rw [Nat.zero_mul, Nat.zero_add] at q1 q2
        clear d hx ST hb
        go_wp2
        go_round
        case rel => exact ⟨1, b, by go_num, rfl, by omega, S⟩
        case measure => simp [intOf]; omega
      · have x2 : ((k : Int) == 0) = false := by rw [beq_eq_false_iff_ne]; omega
        by_cases h1 : b < m
        · have S := Lib.hid (show b = leaN (l.take (k + 1)) by rw [ST, if_pos (.inr h1)])
          clear d hx ST hb h0
          go_wp2
          go_round
          case rel => exact ⟨k + 1, b, by go_num, rfl, by omega, S⟩
          case measure => simp [intOf]; omega
        · have S := Lib.hid (show m = leaN (l.take (k + 1)) by rw [ST, if_neg (by omega)])
          clear d hx ST hb h0
          go_wp2
          go_round
          case rel => exact ⟨k + 1, m, by go_num, rfl, by omega, S⟩
          case measure => simp [intOf]; omega
    · have x1 : ¬ (k : Int) < (l.length : Int) := by omega
      have S := Lib.hid (show m = leaN l by rw [HM.out, List.take_of_length_le (by omega)])
      by_cases hz : 0 < l.length
      · have hb1 : bz = true := by rw [HBZ.out]; simpa using hz
        subst hb1
        have y3 : (0 : Int) < (l.length : Int) := by omega
        go_wp2
        go_region
        go_wp2
        go_ret2
        rw [← S.out]
        exact ⟨rfl, (Kept.refl w []).drew⟩
      · have hb1 : bz = false := by rw [HBZ.out]; simpa using hz
        subst hb1
        have y3 : ¬ (0 : Int) < (l.length : Int) := by omega
        go_wp2
        go_region
        go_wp2
        go_ret2
        rw [← S.out]
        exact ⟨rfl, (Kept.refl w []).drew⟩

set_option maxHeartbeats 2000000 in
set_option maxRecDepth 100000 in
theorem rset_any (a : Cc rcT rcE w B h V l) (i : Nat) (x : Cu) (hi : i < l.length) (hl : l.length ≤ 1000) : Calls Try.prog 27 #[.pointer (some ⟨h, 0, none⟩), .int .i64 i, .agg x.cs] w (ChgPost w B h V rcT rcE (.tuple #[]) (l.set i x)) := by
  obtain ⟨i0, hi0, hz0, hz1, hz2⟩ := info_parts Try.infoRc
  obtain ⟨b0, b1, b2⟩ := x
  simp only [Cu.cs]
  obtain ⟨z, hz⟩ : ∃ z, z = w.heap.size := ⟨_, rfl⟩
  obtain ⟨W1, hW1⟩ : ∃ W1, W1 = w.alloc (.cells #[.string b0, .int .i64 b1, .int .i64 b2] rcE) := ⟨_, rfl⟩
  have k1 : Kept w W1 [] := by rw [hW1]; exact (Kept.refl w []).alloc _
  have g1 : W1.heap[z]? = some (.cells #[.string b0, .int .i64 b1, .int .i64 b2] rcE (0, 0)) := by rw [hW1, hz]; exact heap_alloc_new w _
  have hs1 : W1.heap.size = z + 1 := by rw [hW1, hz]; simp
  have a1 := a.keep k1
  obtain ⟨u, c, e⟩ := a.shape
  have c0 := a1.cell.1
  rw [e] at c0
  have SRC := Lib.hid (a1.own.rd.src (P := Try.prog) (tx := 27) Try.underlying27)
  rw [e] at SRC
  have EV := Lib.hid e; have A := Lib.hid a; have A1 := Lib.hid a1; have K1 := Lib.hid k1; have G1 := Lib.hid g1; have HW1 := Lib.hid hW1; have HZ := Lib.hid hz; have HS1 := Lib.hid hs1
  have x1 : (i : Int) < (l.length : Int) := by omega
  clear a a1 e k1 g1 hz hs1
  go_enter Try.func27, Try.ntmps27
  go_upto_region 1 with fail
  rw [← HW1.out, ← HZ.out]
  clear hW1
  go_wp2_with (at_builtin; refine wpList_append_all _ rfl (.tmp 7) (.tmp 11) 27 27 rfl (z + 1) rcE i0 _ 3 32 Try.underlying27 hi0 hz0 hz1 hz2 rfl (.slice none 0 0) 0 [] rfl (World.ownsRow_nil _ _ _ _) (.slice u l.length c) l.length (kcs encCu l) rfl SRC.out ?b1 ?b2 ?hB ?next)
  case b1 => unfold maxLen; omega
  case b2 => omega
  case hB => rw [HS1.out]; exact Nat.le_refl _
  case next =>
    intro v2 w2 hown _ hgrow _
    have o2 : OwnK encCu w2 (z + 1) rcE v2 l := by unfold OwnK; show w2.ownsRow _ _ 3 _ _ _; simpa using hown
    have k2 : Kept W1 w2 [] := (Kept.refl W1 []).grown hgrow (fun k hk => by simp [Value.ownBlock] at hk)
    obtain ⟨u2, c2, e2⟩ := o2.shape
    subst e2
    obtain ⟨y, hy⟩ : ∃ y, l[i]? = some y := ⟨_, List.getElem?_eq_getElem hi⟩
    obtain ⟨g, eg, -⟩ := o2.at hy
    subst eg
    obtain ⟨p0, p1, p2⟩ := o2.three hy
    obtain ⟨f0, f1, f2⟩ := o2.threeF hy
    have g2 := k2.heap (by simp) G1.out
    obtain ⟨q0, q1, q2⟩ : w2.cell? ⟨z, 0, none⟩ = some (.string b0) ∧ w2.cell? ⟨z, 1, none⟩ = some (.int .i64 b1) ∧ w2.cell? ⟨z, 2, none⟩ = some (.int .i64 b2) := ⟨by rw [cell_of_row _ _ _ _ _ _ g2]; rfl, by rw [cell_of_row _ _ _ _ _ _ g2]; rfl, by rw [cell_of_row _ _ _ _ _ _ g2]; rfl⟩
    have o3 := o2.put i hi ⟨b0, b1, b2⟩
    have hgz := (o2.lt g rfl).1
    have k3 : Kept w (putAll w2 g (i * encCu.k) (encCu.cs ⟨b0, b1, b2⟩).toList) [] := putAll_kept _ _ _ (K1.out.trans k2 (by simp)) (.inr (by have := HZ.out; omega))
    obtain ⟨⟨c4, f4⟩, a5, s5⟩ := A.out.lay (Fo.ofKept k3 _) (v := .slice (some ⟨g, 0, none⟩) l.length c2) (m := l.set i ⟨b0, b1, b2⟩) (o3.mono (by have := A.out.size; have := HZ.out; omega)) (fun k hk => .inr (by have e : g = k := (by simpa [Value.ownBlock] using hk); have := HZ.out; omega))
    have A5 := Lib.hid a5; have S5 := Lib.hid s5
    rw [EV.out] at c4
    change (((w2.setCell ⟨g, i * 3, none⟩ (.string b0)).setCell ⟨g, i * 3 + 1, none⟩ (.int .i64 b1)).setCell ⟨g, i * 3 + 2, none⟩ (.int .i64 b2)).cell? ⟨h, 0, none⟩ = _ at c4
    change (((w2.setCell ⟨g, i * 3, none⟩ (.string b0)).setCell ⟨g, i * 3 + 1, none⟩ (.int .i64 b1)).setCell ⟨g, i * 3 + 2, none⟩ (.int .i64 b2)).frozen? ⟨h, 0, none⟩ = _ at f4
    clear o2 o3 k2 k3 g2 hown hgrow a5 s5 hy hgz
    go_wp2
    exact bodyPost_end (results_none rfl _ _ _) rfl ⟨rfl, _, A5.out, S5.out⟩

end Go.Proofs.Ytnoiomaoignndaa
