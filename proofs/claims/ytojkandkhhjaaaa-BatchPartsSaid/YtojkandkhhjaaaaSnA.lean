/-
  Slices of int64 that can be read ('RdI'), and the contracts of what walks over them: Has, Ints of carrierref01; Index, Contains, Equal, BinarySearch of slices.
-/
import Derived.Test.YtojkandkhhjaaaaRows
import Derived.Test.YtojkandkhhjaaaaKit
import Derived.Deep.QuietTactic
import Derived.BigQuiet
import Derived.Laws.BitsAllLaws
namespace Go.Proofs.Ytojkandkhhjaaaa
open Go.RowKit

/-- The slice v can be read: its elements are the numbers l. -/
def RdI (w : World) (v : Value) (l : List Int) : Prop :=
  ∃ a c, v = .slice a l.length c ∧ l.length ≤ c ∧ c ≤ maxLen ∧ (a = none → c = 0) ∧
    (l ≠ [] → ∃ b o, a = some ⟨b, o, none⟩ ∧ ∀ i, i < l.length → w.cell? ⟨b, o + i, none⟩ = some (.int .i64 (l.getD i 0)))

theorem RdI.kept {w w' : World} {v : Value} {l : List Int} {bs : List Nat} (h : RdI w v l) (hk : Kept w w' bs) (hb : ∀ b, v.ownBlock = some b → b ∉ bs) : RdI w' v l := by
  obtain ⟨a, c, rfl, hc, hm, ha, hl⟩ := h
  refine ⟨a, c, rfl, hc, hm, ha, fun hne => ?_⟩
  obtain ⟨b, o, rfl, hcell⟩ := hl hne
  exact ⟨b, o, rfl, fun i hi => hk.cell (p := ⟨b, o + i, none⟩) (hb b rfl) (hcell i hi)⟩

theorem RdI.keep {w w' : World} {v : Value} {l : List Int} (h : RdI w v l) (hk : Kept w w' []) : RdI w' v l := h.kept hk (by simp)

theorem RdI.nil (w : World) : RdI w (.slice none 0 0) [] := ⟨none, 0, rfl, Nat.le_refl _, by unfold maxLen; omega, fun _ => rfl, fun h => absurd rfl h⟩

theorem RdI.len {w : World} {v : Value} {l : List Int} (h : RdI w v l) : l.length ≤ 9223372036854775807 := by
  obtain ⟨a, c, _, h1, h2, _⟩ := h
  unfold maxLen at h2; omega

theorem mem_take_succ {l : List Int} {k : Nat} {x : Int} (hk : k < l.length) (h1 : x ∉ l.take k) (h2 : l[k] ≠ x) : x ∉ l.take (k + 1) := by
  rw [List.take_succ_eq_append_getElem hk, List.mem_append]
  rintro (h | h)
  · exact h1 h
  · exact h2 (List.mem_singleton.1 h).symm

theorem mem_whole {l : List Int} {k : Nat} {x : Int} (hk : l.length ≤ k) (h : x ∉ l.take k) : x ∉ l := by
  rwa [List.take_of_length_le hk] at h

theorem retb {a b : Bool} (h : a = b) : Ending.returned (.bool a) = .returned (.bool b) := by rw [h]

set_option maxHeartbeats 400000 in
theorem has_any (v : Value) (l : List Int) (x : Int) (w : World) (h : RdI w v l) :
    Calls Try.prog 26 #[v, .int .i64 x] w fun e w' => e = .returned (.bool (decide (x ∈ l))) ∧ w = w' := by
  have hlen := h.len
  obtain ⟨a, c, rfl, hc, hm, _, hl⟩ := h
  by_cases hne : l = []
  · subst hne
    clear hl
    go_enter Try.func26, Try.ntmps26
    go_wp2
    go_loop [5] (fun t => t = .int .i64 0) (fun _ => 0)
    case atStart => rfl
    case round =>
      subst hrel
      go_wp2
      go_ret
      exact ⟨retb (by simp), rfl⟩
  · obtain ⟨b, o, rfl, hcell⟩ := hl hne
    have C := Lib.hid hcell
    clear hcell hl
    go_enter Try.func26, Try.ntmps26
    go_wp2
    go_loop [5] (fun t => ∃ k : Nat, t = .int .i64 k ∧ k ≤ l.length ∧ x ∉ l.take k) (fun t => l.length - (intOf t).toNat)
    case atStart => exact ⟨0, rfl, Nat.zero_le _, by simp⟩
    case round =>
      obtain ⟨k, rfl, hk, hx⟩ := hrel
      have Hx := Lib.hid hx; clear hx
      by_cases hlt : k < l.length
      · have c1 := C.out k hlt
        have x1 : (k : Int) < (l.length : Int) := by omega
        by_cases he : l[k] = x
        · have x2 : (l[k] == x) = true := by simpa using he
          have Hm := Lib.hid (show x ∈ l by rw [← he]; exact List.getElem_mem hlt)
          clear he
          go_wp2
          go_ret
          exact ⟨retb (by simp [Hm.out]), rfl⟩
        · have x2 : (l[k] == x) = false := by simpa using he
          have He := Lib.hid he; clear he
          go_wp2
          go_round
          case rel => exact ⟨k + 1, by go_num, by omega, mem_take_succ hlt Hx.out He.out⟩
          case measure => simp [intOf]; omega
      · have x1 : ¬ (k : Int) < (l.length : Int) := by omega
        have Hm := Lib.hid (mem_whole (by omega) Hx.out)
        go_wp2
        go_ret
        exact ⟨retb (by simp [Hm.out]), rfl⟩

set_option maxHeartbeats 400000 in
theorem index_any (v : Value) (l : List Int) (x : Int) (w : World) (h : RdI w v l) :
    Calls Try.prog 53 #[v, .int .i64 x] w fun e w' => ∃ r : Int, e = .returned (.int .i64 r) ∧ (0 ≤ r ↔ x ∈ l) ∧ w = w' := by
  have hlen := h.len
  obtain ⟨a, c, rfl, hc, hm, _, hl⟩ := h
  by_cases hne : l = []
  · subst hne
    clear hl
    go_enter Try.func53, Try.ntmps53
    go_wp2
    go_loop [8] (fun t => t = .int .i64 0) (fun _ => 0)
    case atStart => rfl
    case round =>
      subst hrel
      go_wp2
      go_ret
      exact ⟨_, rfl, by simp, rfl⟩
  · obtain ⟨b, o, rfl, hcell⟩ := hl hne
    have C := Lib.hid hcell
    clear hcell hl
    go_enter Try.func53, Try.ntmps53
    go_wp2
    go_loop [8] (fun t => ∃ k : Nat, t = .int .i64 k ∧ k ≤ l.length ∧ x ∉ l.take k) (fun t => l.length - (intOf t).toNat)
    case atStart => exact ⟨0, rfl, Nat.zero_le _, by simp⟩
    case round =>
      obtain ⟨k, rfl, hk, hx⟩ := hrel
      have Hx := Lib.hid hx; clear hx
      by_cases hlt : k < l.length
      · have c1 := C.out k hlt
        have x1 : (k : Int) < (l.length : Int) := by omega
        by_cases he : l[k] = x
        · have x2 : (x == l[k]) = true := by simpa using he.symm
          have Hm := Lib.hid (show x ∈ l by rw [← he]; exact List.getElem_mem hlt)
          clear he
          go_wp2
          go_ret
          exact ⟨_, rfl, iff_of_true (by omega) Hm.out, rfl⟩
        · have x2 : (x == l[k]) = false := by rw [beq_eq_false_iff_ne]; exact fun h => he h.symm
          have He := Lib.hid he; clear he
          go_wp2
          go_round
          case rel => exact ⟨k + 1, by go_num, by omega, mem_take_succ hlt Hx.out He.out⟩
          case measure => simp [intOf]; omega
      · have x1 : ¬ (k : Int) < (l.length : Int) := by omega
        have Hm := Lib.hid (mem_whole (by omega) Hx.out)
        go_wp2
        go_ret
        exact ⟨_, rfl, iff_of_false (by omega) Hm.out, rfl⟩

theorem contains_any (v : Value) (l : List Int) (x : Int) (w : World) (h : RdI w v l) :
    Calls Try.prog 49 #[v, .int .i64 x] w fun e w' => e = .returned (.bool (decide (x ∈ l))) ∧ w = w' := by
  go_enter Try.func49, Try.ntmps49
  go_wp2_with fail
  refine (index_any v l x w h).mono ?_
  rintro e w1 ⟨r, rfl, hr, rfl⟩
  have Hr := Lib.hid hr; clear hr
  go_wp2
  go_ret
  exact ⟨retb (by simp [Hr.out]), rfl⟩

theorem ints_no {l m : List Int} {k : Nat} (h1 : k < l.length) (h2 : k < m.length) (h : (l[k] != m[k]) = true) : (l == m) = false := by
  rw [beq_eq_false_iff_ne]
  rintro rfl
  simp at h

theorem ints_step {l m : List Int} {k : Nat} (ht : l.take k = m.take k) (h1 : k < l.length) (h2 : k < m.length) (h : (l[k] != m[k]) = false) : l.take (k + 1) = m.take (k + 1) := by
  rw [List.take_succ_eq_append_getElem h1, List.take_succ_eq_append_getElem h2, ht]
  have : l[k] = m[k] := by simpa using h
  rw [this]

theorem ints_whole {l m : List Int} {k : Nat} (h1 : l.length ≤ k) (h2 : l.length = m.length) (h : l.take k = m.take k) : (l == m) = true := by
  rw [List.take_of_length_le h1, List.take_of_length_le (by omega)] at h
  simpa using h

end Go.Proofs.Ytojkandkhhjaaaa
