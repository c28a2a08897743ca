/-
  The contracts of Right (of package snap and of carrierref05), and of slices.BinarySearch.
-/
import Derived.Test.YtodfjpjjcgdmeaaSnB
namespace Go.Proofs.Ytodfjpjjcgdmeaa
open Go.RowKit

/-- Do these numbers rise, all above b and below M? -/
def upB (M : Int) : Int → List Int → Bool
  | _, [] => true
  | b, x :: r => decide (b < x) && (decide (x < M) && upB M x r)

/-- Is a snapshot right? -/
def rightB (M : Int) (l : List Int) : Bool := decide (1 ≤ M) && upB M 0 l

theorem upB_step {M b : Int} {l : List Int} {k : Nat} (hk : k < l.length) : upB M b (l.drop k) = (decide (b < l[k]) && (decide (l[k] < M) && upB M l[k] (l.drop (k + 1)))) := by
  rw [List.drop_eq_getElem_cons hk]
  rfl

theorem upB_end {M b : Int} {l : List Int} {k : Nat} (hk : l.length ≤ k) : upB M b (l.drop k) = true := by
  rw [List.drop_of_length_le hk]
  rfl

set_option maxHeartbeats 400000 in
theorem right_any (M : Int) (v : Value) (l : List Int) (w : World) (h : RdI w v l) :
    Calls Try.prog 37 #[.agg #[.int .i64 M, v]] w fun e w' => e = .returned (.bool (rightB M l)) ∧ Kept w w' [] := by
  have hlen := h.len
  obtain ⟨a, c, rfl, hc, hm, _, hl⟩ := h
  by_cases hne : l = []
  · subst hne
    clear hl
    have R1 := Lib.hid (show rightB M [] = decide (1 ≤ M) by simp [rightB, upB])
    go_enter Try.func37, Try.ntmps37
    go_wp2
    go_loop [3, 9] (fun t s => t = .int .i64 0 ∧ s = .int .i64 0) (fun _ _ => 0)
    case atStart => exact ⟨rfl, rfl⟩
    case round =>
      obtain ⟨rfl, rfl⟩ := hrel
      go_wp2
      go_ret
      exact ⟨retb R1.out.symm, (Kept.refl w []).alloc _⟩
  · obtain ⟨b, o, rfl, hcell⟩ := hl hne
    have C := Lib.hid (fun i hi => ((Kept.refl w []).alloc (.cells #[.int .i64 M, .slice (some ⟨b, o, none⟩) l.length c] 35)).cell (p := ⟨b, o + i, none⟩) (by simp) (hcell i hi))
    clear hcell hl
    go_enter Try.func37, Try.ntmps37
    go_wp2
    go_loop [3, 9] (fun t s => ∃ (k : Nat) (y : Int), s = .int .i64 k ∧ t = .int .i64 y ∧ k ≤ l.length ∧ upB M 0 l = upB M y (l.drop k)) (fun _ s => l.length - (intOf s).toNat)
    case atStart => exact ⟨0, 0, rfl, rfl, Nat.zero_le _, by rw [List.drop_zero]⟩
    case round =>
      obtain ⟨k, y, rfl, rfl, hk, hu⟩ := hrel
      have Hu := Lib.hid hu; clear hu
      by_cases hlt : k < l.length
      · have c1 := C.out k hlt
        have e1 := upB_step (M := M) (b := y) hlt
        rw [← Hu.out] at e1
        have x1 : (k : Int) < (l.length : Int) := by omega
        obtain ⟨x, hx⟩ : ∃ x, x = l.getD k 0 := ⟨_, rfl⟩
        have hx2 : l[k] = x := by rw [hx]; simp [List.getD, hlt]
        rw [hx2] at e1
        rw [← hx] at c1
        clear hx hx2
        by_cases h1 : x ≤ y
        · have R1 := Lib.hid (show rightB M l = false by rw [rightB, e1]; simp; omega)
          clear e1
          go_wp2
          go_ret
          exact ⟨retb R1.out.symm, (Kept.refl w []).alloc _⟩
        · by_cases h2 : M ≤ x
          · have R1 := Lib.hid (show rightB M l = false by rw [rightB, e1]; simp; omega)
            clear e1
            go_wp2
            go_ret
            exact ⟨retb R1.out.symm, (Kept.refl w []).alloc _⟩
          · have e2 : upB M 0 l = upB M x (l.drop (k + 1)) := by rw [e1, decide_eq_true (by omega), decide_eq_true (by omega)]; rfl
            have E2 := Lib.hid e2
            clear e1 e2
            go_wp2
            go_round
            case rel => exact ⟨k + 1, x, by go_num, rfl, by omega, E2.out⟩
            case measure => simp [intOf]; omega
      · have x1 : ¬ (k : Int) < (l.length : Int) := by omega
        have R1 := Lib.hid (show rightB M l = decide (1 ≤ M) by rw [rightB, Hu.out, upB_end (by omega), Bool.and_true])
        go_wp2
        go_ret
        exact ⟨retb R1.out.symm, (Kept.refl w []).alloc _⟩

set_option maxHeartbeats 1000000 in
set_option maxRecDepth 100000 in
theorem rright_any (M : Int) (v : Value) (l : List Int) (w : World) (h : RdI w v l) :
    Calls Try.prog 29 #[.agg #[.int .i64 M, v]] w fun e w' => e = .returned (.bool (rightB M l)) ∧ Kept w w' [] := by
  have hlen := h.len
  obtain ⟨a, c, rfl, hc, hm, _, hl⟩ := h
  by_cases hne : l = []
  · subst hne
    clear hl
    have R1 := Lib.hid (show rightB M [] = decide (1 ≤ M) by simp [rightB, upB])
    go_enter Try.func29, Try.ntmps29
    go_wp2
    go_loop [3] (fun t => t = .int .i64 0) (fun _ => 0)
    case atStart => rfl
    case round =>
      subst hrel
      go_wp2
      go_ret
      exact ⟨retb R1.out.symm, (Kept.refl w []).alloc _⟩
  · obtain ⟨b, o, rfl, hcell⟩ := hl hne
    have C := Lib.hid (fun i hi => ((Kept.refl w []).alloc (.cells #[.int .i64 M, .slice (some ⟨b, o, none⟩) l.length c] 35)).cell (p := ⟨b, o + i, none⟩) (by simp) (hcell i hi))
    clear hcell hl
    go_enter Try.func29, Try.ntmps29
    go_wp2
    go_loopw [3] (fun s wr => ∃ (k : Nat) (y : Int) (q : Nat), s = .int .i64 k ∧ k ≤ l.length ∧ 0 ≤ y ∧ (k = 0 → y = 0) ∧ (0 < k → y = l.getD (k - 1) 0) ∧ upB M 0 l = upB M y (l.drop k) ∧ wr = (w.alloc (.cells #[.int .i64 M, .slice (some ⟨b, o, none⟩) l.length c] 35)).drewN q) (fun s _ => l.length - (intOf s).toNat)
    case atStart => exact ⟨0, 0, 0, rfl, Nat.zero_le _, by omega, fun _ => rfl, fun h => by omega, by rw [List.drop_zero], rfl⟩
    case round =>
      obtain ⟨k, y, q, rfl, hk, hy0, hyz, hyp, hu, rfl⟩ := hrel
      have Hu := Lib.hid hu; clear hu
      by_cases hlt : k < l.length
      · have c1 := C.out k hlt
        have e1 := upB_step (M := M) (b := y) hlt
        rw [← Hu.out] at e1
        have x1 : (k : Int) < (l.length : Int) := by omega
        obtain ⟨x, hx⟩ : ∃ x, x = l.getD k 0 := ⟨_, rfl⟩
        have hx2 : l[k] = x := by rw [hx]; simp [List.getD, hlt]
        have hx3 := Lib.hid hx
        rw [hx2] at e1
        rw [← hx] at c1
        clear hx hx2
        by_cases h1 : x < 1
        · have R1 := Lib.hid (show rightB M l = false by rw [rightB, e1]; simp; omega)
          clear e1 hyz hyp
          go_wp2
          go_quiet (fail)
          go_wp2
          go_ret
          exact ⟨retb R1.out.symm, (((Kept.refl w []).alloc _).drewN _).drewN _⟩
        · have d1 : decide (x < 1) = false := decide_eq_false h1
          by_cases h2 : M ≤ x
          · have R1 := Lib.hid (show rightB M l = false by rw [rightB, e1]; simp; omega)
            clear e1 hyz hyp h1
            go_wp2
            go_quiet (fail)
            go_wp2
            go_ret
            exact ⟨retb R1.out.symm, (((Kept.refl w []).alloc _).drewN _).drewN _⟩
          · have d2 : decide (M ≤ x) = false := decide_eq_false h2
            by_cases h0 : k = 0
            · have hy2 := hyz h0
              have e2 : upB M 0 l = upB M x (l.drop (k + 1)) := by rw [e1, decide_eq_true (by omega), decide_eq_true (by omega)]; rfl
              have E2 := Lib.hid e2
              have d0 : decide (0 < k) = false := decide_eq_false (by omega)
              clear e1 e2 hyz hyp hy2 h0
              go_wp2
              go_quiet (fail)
              go_wp2
              go_roundw
              case rel => exact ⟨k + 1, x, q + nq, by go_num, by omega, by omega, by omega, fun _ => hx3.out, E2.out, rfl⟩
              case measure => simp [intOf]; omega
            · have c2 := C.out (k - 1) (by omega)
              have hy1 : y = l.getD (k - 1) 0 := hyp (by omega)
              rw [← hy1] at c2
              have x2 : 0 < k := by omega
              have x3 : (k : Int) - 1 = ((k - 1 : Nat) : Int) := by omega
              have x4 : ((k - 1 : Nat) : Int) < (l.length : Int) := by omega
              clear hyz hyp hy1 h0
              by_cases h3 : x ≤ y
              · have R1 := Lib.hid (show rightB M l = false by rw [rightB, e1]; simp; omega)
                clear e1
                go_wp2
                go_quiet (fail)
                go_wp2
                go_ret
                exact ⟨retb R1.out.symm, (((Kept.refl w []).alloc _).drewN _).drewN _⟩
              · have e2 : upB M 0 l = upB M x (l.drop (k + 1)) := by rw [e1, decide_eq_true (by omega), decide_eq_true (by omega)]; rfl
                have E2 := Lib.hid e2
                have d3 : decide (x ≤ y) = false := decide_eq_false h3
                clear e1 e2
                go_wp2
                go_quiet (fail)
                go_wp2
                go_roundw
                case rel => exact ⟨k + 1, x, q + nq, by go_num, by omega, by omega, by omega, fun _ => hx3.out, E2.out, rfl⟩
                case measure => simp [intOf]; omega
      · have x1 : ¬ (k : Int) < (l.length : Int) := by omega
        have R1 := Lib.hid (show rightB M l = decide (1 ≤ M) by rw [rightB, Hu.out, upB_end (by omega), Bool.and_true])
        go_wp2
        go_ret
        exact ⟨retb R1.out.symm, ((Kept.refl w []).alloc _).drewN _⟩

end Go.Proofs.Ytodfjpjjcgdmeaa
