/-
  The document's manager in memory ('Rm'): Next, State, Open, Begin, End.
-/
import Derived.Test.YtojkandkhhjaaaaBa
namespace Go.Proofs.Ytojkandkhhjaaaa
open Go.RowKit Go.Maps

/-- States as cells. -/
def sb (st : List Nat) : List Value := st.map fun (s : Nat) => Value.int .u8 (s : Int)
theorem sb_length (st : List Nat) : (sb st).length = st.length := by simp [sb]

/-- The document's manager at block q; v has what has become of each. -/
structure Rm (w : World) (B q : Nat) (v : Value) (st : List Nat) : Prop where
  hp : w.heap[q]? = some (.cells #[v] 58 (0, 0))
  hv : w.ownsRow B 5 1 v st.length (sb st)
  bp : B ≤ q
  hl : st.length < 1048576
  hs : ∀ s ∈ st, 1 ≤ s ∧ s ≤ 3

/-- The types of its blocks. -/
def rts : List TypeId := [58, 5]

theorem Rm.frame {w w' : World} {B q C : Nat} {v : Value} {st : List Nat} {ts : List TypeId} (h : Rm w B q v st) (hf : Fm C ts w w') (h1 : 58 ∉ ts) (h2 : 5 ∉ ts) : Rm w' B q v st :=
  { h with hp := hf.heap h.hp h1, hv := ownsRow_fm h.hv hf h2 }

theorem Rm.keep {w w' : World} {B q : Nat} {v : Value} {st : List Nat} (h : Rm w B q v st) (hk : Kept w w' []) : Rm w' B q v st := h.frame (Fm.ofKept hk 0 []) (by simp) (by simp)

theorem Rm.cell {w : World} {B q : Nat} {v : Value} {st : List Nat} (h : Rm w B q v st) : w.cell? ⟨q, 0, none⟩ = some v := by
  rw [cell_of_row w q 0 _ _ _ h.hp]; rfl

theorem Rm.size {w : World} {B q : Nat} {v : Value} {st : List Nat} (h : Rm w B q v st) : B ≤ w.heap.size := by have := heap_lt h.hp; have := h.bp; omega

theorem Rm.shape {w : World} {B q : Nat} {v : Value} {st : List Nat} (h : Rm w B q v st) : ∃ a c, v = .slice a st.length c ∧ st.length ≤ c ∧ (0 < st.length → ∃ g, a = some ⟨g, 0, none⟩ ∧ B ≤ g ∧ (∃ cur, w.heap[g]? = some (.cells cur 5 (0, 0))) ∧ ∀ i, (hi : i < st.length) → w.cell? ⟨g, i, none⟩ = some (.int .u8 (st[i] : Int))) := by
  obtain ⟨a, c, rfl⟩ := ownsRow_shape h.hv
  refine ⟨a, c, rfl, ?_, fun h0 => ?_⟩
  · rcases h.hv.2 with ⟨hv, h0⟩ | ⟨g, cap, cur, hv, _, _, hnc, _⟩
    · omega
    · simp only [Value.slice.injEq] at hv
      omega
  · obtain ⟨g, rfl, hg, _, hc, hcell⟩ := row_head h.hv h0
    exact ⟨g, rfl, hg, hc, fun i hi => hcell i _ (by rw [sb, List.getElem?_map, List.getElem?_eq_getElem hi]; rfl)⟩

theorem rnext_any {w : World} {B q : Nat} {v : Value} {st : List Nat} (h : Rm w B q v st) : Calls Try.prog 45 #[.pointer (some ⟨q, 0, none⟩)] w fun e w' => e = .returned (.int .i64 ((st.length : Int) + 1)) ∧ w = w' := by
  have c := h.cell
  have hl : (st.length : Int) ≤ 2000000 := by have := h.hl; omega
  obtain ⟨a, cp, rfl, _⟩ := h.shape
  clear h
  go_enter Try.func45, Try.ntmps45
  go_wp2
  go_ret
  exact ⟨rfl, rfl⟩

set_option maxRecDepth 20000 in
theorem rstate_any {w : World} {B q : Nat} {v : Value} {st : List Nat} (h : Rm w B q v st) (x : Int) : Calls Try.prog 34 #[.pointer (some ⟨q, 0, none⟩), .int .i64 x] w fun e w' => e = .returned (.int .u8 (stAt st x)) ∧ w = w' := by
  have c := h.cell
  obtain ⟨a, cp, rfl, hcp, hh⟩ := h.shape
  by_cases h1 : x < 1
  · rw [stAt_out (.inl h1)]
    clear h hh
    go_enter Try.func34, Try.ntmps34
    go_wp2
    go_ret
    exact ⟨by simp, rfl⟩
  · by_cases h2 : (st.length : Int) < x
    · rw [stAt_out (.inr h2)]
      clear h hh
      go_enter Try.func34, Try.ntmps34
      go_wp2
      go_ret
      exact ⟨by simp, rfl⟩
    · obtain ⟨k, hk⟩ : ∃ k : Nat, x = (k : Int) + 1 := ⟨x.toNat - 1, by omega⟩
      have hkl : k < st.length := by omega
      obtain ⟨g, rfl, _, _, hcell⟩ := hh (by omega)
      have hc := hcell k hkl
      have e1 := stAt_nat hkl
      rw [← hk] at e1
      rw [e1]
      obtain ⟨s, hs⟩ : ∃ s, s = st[k] := ⟨_, rfl⟩
      rw [← hs] at hc ⊢
      have x0 : (1 : Int) ≤ x := by omega
      have x2 : x ≤ 2000000 := by have := h.hl; omega
      have e2 : x - 1 = (k : Int) := by omega
      have x3 : (k : Int) < (st.length : Int) := by omega
      clear h hh hcell e1 hs hk
      go_enter Try.func34, Try.ntmps34
      go_wp2
      go_ret
      exact ⟨rfl, rfl⟩

theorem Try.infoI64 : (Try.prog.info? 2).map (fun i => (i.zero, i.size, i.bytes)) = some (some (.int .i64 0), 1, 8) := by kernel_rfl
theorem Try.infoU8 : (Try.prog.info? 5).map (fun i => (i.zero, i.size, i.bytes)) = some (some (.int .u8 0), 1, 1) := by kernel_rfl

theorem opens_take {st : List Nat} {k : Nat} (h : k < st.length) : opens (st.take (k + 1)) = if st[k] = 1 then opens (st.take k) ++ [(k : Int) + 1] else opens (st.take k) := by
  rw [List.take_succ_eq_append_getElem h, opens, opensFrom_append, ← opens]
  have e : 1 + (st.take k).length = k + 1 := by simp; omega
  rw [e]
  simp only [opensFrom]
  split
  · simp
  · simp

set_option maxRecDepth 20000 in
set_option maxHeartbeats 1000000 in
theorem ropen_any {w : World} {B q : Nat} {v : Value} {st : List Nat} (h : Rm w B q v st) : Calls Try.prog 44 #[.pointer (some ⟨q, 0, none⟩)] w fun e w' => ∃ a c, e = .returned (.slice a (opens st).length c) ∧ w'.ownsRow w.heap.size 2 1 (.slice a (opens st).length c) (opens st).length ((opens st).map encZ) ∧ Kept w w' [] := by
  obtain ⟨a, cp, hv, _, hh⟩ := h.shape
  have H := Lib.hid h
  have HH := Lib.hid hh
  have hl20 := Lib.hid h.hl
  have c := h.cell
  rw [hv] at c
  obtain ⟨i0, hi, hz0, hz1, hz2⟩ := info_parts Try.infoI64
  have I := Lib.hid (And.intro hi (And.intro hz0 (And.intro hz1 hz2)))
  clear h hh hv hi hz0 hz1 hz2
  go_enter Try.func44, Try.ntmps44
  go_wp2
  go_loopw [3, 4] (fun u i wr => ∃ k : Nat, i = .int .i64 k ∧ k ≤ st.length ∧ wr.ownsRow w.heap.size 2 1 u (opens (st.take k)).length ((opens (st.take k)).map encZ) ∧ Fr w.heap.size [2] w wr) (fun _ i _ => st.length - (intOf i).toNat)
  case atStart => exact ⟨0, rfl, Nat.zero_le _, World.ownsRow_nil _ _ _ _, Fr.refl _ _ _⟩
  case round =>
    obtain ⟨k, rfl, hk, ho, hf⟩ := hrel
    have hkept := (Fm.ofFr hf).kept (Nat.le_refl _)
    have c' := hkept.cell (p := ⟨q, 0, none⟩) (by simp) c
    obtain ⟨ua, uc, rfl⟩ := ownsRow_shape ho
    have O := Lib.hid ho; have F := Lib.hid hf
    have hsz := hf.size
    clear ho hf
    by_cases hlt : k < st.length
    · obtain ⟨g, rfl, _, _, hcell⟩ := HH.out (by omega)
      have hc := hkept.cell (p := ⟨g, k, none⟩) (by simp) (hcell k hlt)
      have ht := opens_take hlt
      have x1 : (k : Int) < (st.length : Int) := by omega
      have x2 : (k : Int) ≤ 2000000 := by have := hl20.out; omega
      obtain ⟨s, hs⟩ : ∃ s, s = st[k] := ⟨_, rfl⟩
      rw [← hs] at hc ht
      have T := Lib.hid ht
      clear hcell ht hs hkept
      by_cases h1 : s = 1
      · subst h1
        have T' : Hid (opens (st.take (k + 1)) = opens (st.take k) ++ [(k : Int) + 1]) := Lib.hid (by have := T.out; rwa [if_pos rfl] at this)
        clear T
        go_wp2_with (at_builtin; refine wpList_append_fr _ rfl (.tmp 22) (.tmp 25) 29 29 rfl w.heap.size 2 i0 (.int .i64 0) 1 8 Try.underlying29 I.out.1 I.out.2.1 I.out.2.2.1 I.out.2.2.2 rfl _ (opens (st.take k)).length ((opens (st.take k)).map encZ) rfl ?hown _ 1 [.int .i64 ((k : Int) + 1)] rfl (src_one Try.underlying29 wr _ rfl _) ?b1 ?b2 ?base ?next)
        case hown => exact ownsRow_fr O.out ((Fr.refl 0 [] wr).alloc _) (by simp)
        case b1 => have := opens_le (st.take k); have := hl20.out; simp only [maxLen]; simp at *; omega
        case b2 => have := opens_le (st.take k); have := hl20.out; simp at *; omega
        case base => simp; omega
        case next =>
          intro v2 w2 ho2 hf2 _
          have F2 := Lib.hid ((F.out.trans ((Fr.refl _ _ wr).alloc _)).trans hf2)
          have O2 : Hid (w2.ownsRow w.heap.size 2 1 v2 (opens (st.take (k + 1))).length ((opens (st.take (k + 1))).map encZ)) := Lib.hid (by
            rw [T'.out, List.map_append, List.length_append]
            exact ho2)
          clear ho2 hf2
          go_wp2
          go_roundw
          case rel => exact ⟨k + 1, by go_num, by omega, O2.out, F2.out⟩
          case measure => simp [intOf]; omega
      · have T' : Hid (opens (st.take (k + 1)) = opens (st.take k)) := Lib.hid (by have := T.out; rwa [if_neg h1] at this)
        have x3 : ((s : Int) == 1) = false := by rw [beq_eq_false_iff_ne]; omega
        clear T
        go_wp2
        go_roundw
        case rel => exact ⟨k + 1, by go_num, by omega, by rw [T'.out]; exact O.out, F.out⟩
        case measure => simp [intOf]; omega
    · obtain rfl : k = st.length := by omega
      rw [List.take_length] at O
      have x1 : ¬ (st.length : Int) < (st.length : Int) := by omega
      rw [List.take_length]
      clear hkept
      go_wp2
      go_ret
      exact ⟨ua, uc, rfl, O.out, (Fm.ofFr F.out).kept (Nat.le_refl _)⟩

end Go.Proofs.Ytojkandkhhjaaaa
