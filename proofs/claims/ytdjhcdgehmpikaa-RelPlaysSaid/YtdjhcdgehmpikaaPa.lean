/-
  The document's snapshots, and its manager (as in layers 5 and 6).
-/
import Derived.Test.YtdjhcdgehmpikaaQg
import Derived.Deep.RegionHeld3
namespace Go.Proofs.Ytdjhcdgehmpikaa
open Go.RowKit Go.Maps

set_option maxHeartbeats 400000 in
theorem has_any (v : Value) (l : List Int) (x : Int) (w : World) (h : RdI w v l) :
    Calls Try.prog 87 #[v, .int .i64 x] w fun e w' => e = .returned (.bool (decide (x ∈ l))) ∧ w = w' := by
  have hlen := h.len
  obtain ⟨a, c, rfl, hc, hm, _, hl⟩ := h
  by_cases hne : l = []
  · subst hne
    clear hl
    go_enter Try.func87, Try.ntmps87
    go_wp2
    go_loop [5] (fun t => t = .int .i64 0) (fun _ => 0)
    case atStart => rfl
    case round =>
      subst hrel
      go_wp2
      go_ret
      exact ⟨retb (by simp), rfl⟩
  · obtain ⟨b, o, rfl, hcell⟩ := hl hne
    have C := Lib.hid hcell
    clear hcell hl
    go_enter Try.func87, Try.ntmps87
    go_wp2
    go_loop [5] (fun t => ∃ k : Nat, t = .int .i64 k ∧ k ≤ l.length ∧ x ∉ l.take k) (fun t => l.length - (intOf t).toNat)
    case atStart => exact ⟨0, rfl, Nat.zero_le _, by simp⟩
    case round =>
      obtain ⟨k, rfl, hk, hx⟩ := hrel
      have Hx := Lib.hid hx; clear hx
      by_cases hlt : k < l.length
      · have c1 := C.out k hlt
        have x1 : (k : Int) < (l.length : Int) := by omega
        by_cases he : l[k] = x
        · have x2 : (l[k] == x) = true := by simpa using he
          have Hm := Lib.hid (show x ∈ l by rw [← he]; exact List.getElem_mem hlt)
          clear he
          go_wp2
          go_ret
          exact ⟨retb (by simp [Hm.out]), rfl⟩
        · have x2 : (l[k] == x) = false := by simpa using he
          have He := Lib.hid he; clear he
          go_wp2
          go_round
          case rel => exact ⟨k + 1, by go_num, by omega, mem_take_succ hlt Hx.out He.out⟩
          case measure => simp [intOf]; omega
      · have x1 : ¬ (k : Int) < (l.length : Int) := by omega
        have Hm := Lib.hid (mem_whole (by omega) Hx.out)
        go_wp2
        go_ret
        exact ⟨retb (by simp [Hm.out]), rfl⟩

set_option maxHeartbeats 400000 in
theorem rsees_any (M x : Int) (v : Value) (l : List Int) (w : World) (h : RdI w v l) :
    Calls Try.prog 73 #[.agg #[.int .i64 M, v], .int .i64 x] w fun e w' => e = .returned (.bool (seesB M l x)) ∧ Kept w w' [] := by
  have H := Lib.hid h
  obtain ⟨a, c, rfl, _⟩ := h
  by_cases h1 : (1 : Int) ≤ x
  · by_cases h2 : x < M
    · have r1 : seesB M l x = !decide (x ∈ l) := by simp [seesB, h1, h2]
      have R1 := Lib.hid r1; clear r1
      go_enter Try.func73, Try.ntmps73
      go_wp2_with fail
      refine (has_any _ l x _ (H.out.keep ((Kept.refl w []).alloc _))).mono ?_
      rintro e w1 ⟨rfl, rfl⟩
      go_wp2
      go_ret
      exact ⟨retb R1.out.symm, (Kept.refl w []).alloc _⟩
    · have r1 : seesB M l x = false := by simp [seesB, h2]
      have R1 := Lib.hid r1; clear r1
      go_enter Try.func73, Try.ntmps73
      go_wp2
      go_ret
      exact ⟨retb R1.out.symm, (Kept.refl w []).alloc _⟩
  · have r1 : seesB M l x = false := by simp [seesB, h1]
    have R1 := Lib.hid r1; clear r1
    go_enter Try.func73, Try.ntmps73
    go_wp2
    go_ret
    exact ⟨retb R1.out.symm, (Kept.refl w []).alloc _⟩


/-- States as cells. -/
def sb (st : List Nat) : List Value := st.map fun (s : Nat) => Value.int .u8 (s : Int)
theorem sb_length (st : List Nat) : (sb st).length = st.length := by simp [sb]

/-- The document's manager at block q; v has what has become of each. -/
structure Rm (w : World) (B q : Nat) (v : Value) (st : List Nat) : Prop where
  hp : w.heap[q]? = some (.cells #[v] 30 (0, 0))
  hv : w.ownsRow B 5 1 v st.length (sb st)
  bp : B ≤ q
  hl : st.length < 1048576
  hs : ∀ s ∈ st, 1 ≤ s ∧ s ≤ 3

/-- The types of its blocks. -/
def rts : List TypeId := [30, 5]

theorem Rm.frame {w w' : World} {B q C : Nat} {v : Value} {st : List Nat} {ts : List TypeId} (h : Rm w B q v st) (hf : Fm C ts w w') (h1 : 30 ∉ ts) (h2 : 5 ∉ ts) : Rm w' B q v st :=
  { h with hp := hf.heap h.hp h1, hv := ownsRow_fm h.hv hf h2 }

theorem Rm.keep {w w' : World} {B q : Nat} {v : Value} {st : List Nat} (h : Rm w B q v st) (hk : Kept w w' []) : Rm w' B q v st := h.frame (Fm.ofKept hk 0 []) (by simp) (by simp)

theorem Rm.cell {w : World} {B q : Nat} {v : Value} {st : List Nat} (h : Rm w B q v st) : w.cell? ⟨q, 0, none⟩ = some v := by
  rw [cell_of_row w q 0 _ _ _ h.hp]; rfl

theorem Rm.size {w : World} {B q : Nat} {v : Value} {st : List Nat} (h : Rm w B q v st) : B ≤ w.heap.size := by have := heap_lt h.hp; have := h.bp; omega

theorem Rm.shape {w : World} {B q : Nat} {v : Value} {st : List Nat} (h : Rm w B q v st) : ∃ a c, v = .slice a st.length c ∧ st.length ≤ c ∧ (0 < st.length → ∃ g, a = some ⟨g, 0, none⟩ ∧ B ≤ g ∧ (∃ cur, w.heap[g]? = some (.cells cur 5 (0, 0))) ∧ ∀ i, (hi : i < st.length) → w.cell? ⟨g, i, none⟩ = some (.int .u8 (st[i] : Int))) := by
  obtain ⟨a, c, rfl⟩ := ownsRow_shape h.hv
  refine ⟨a, c, rfl, ?_, fun h0 => ?_⟩
  · rcases h.hv.2 with ⟨hv, h0⟩ | ⟨g, cap, cur, hv, _, _, hnc, _⟩
    · omega
    · simp only [Value.slice.injEq] at hv
      omega
  · obtain ⟨g, rfl, hg, _, hc, hcell⟩ := row_head h.hv h0
    exact ⟨g, rfl, hg, hc, fun i hi => hcell i _ (by rw [sb, List.getElem?_map, List.getElem?_eq_getElem hi]; rfl)⟩

theorem rnext_any {w : World} {B q : Nat} {v : Value} {st : List Nat} (h : Rm w B q v st) : Calls Try.prog 35 #[.pointer (some ⟨q, 0, none⟩)] w fun e w' => e = .returned (.int .i64 ((st.length : Int) + 1)) ∧ w = w' := by
  have c := h.cell
  have hl : (st.length : Int) ≤ 2000000 := by have := h.hl; omega
  obtain ⟨a, cp, rfl, _⟩ := h.shape
  clear h
  go_enter Try.func35, Try.ntmps35
  go_wp2
  go_ret
  exact ⟨rfl, rfl⟩

set_option maxRecDepth 20000 in
theorem rstate_any {w : World} {B q : Nat} {v : Value} {st : List Nat} (h : Rm w B q v st) (x : Int) : Calls Try.prog 37 #[.pointer (some ⟨q, 0, none⟩), .int .i64 x] w fun e w' => e = .returned (.int .u8 (stAt st x)) ∧ w = w' := by
  have c := h.cell
  obtain ⟨a, cp, rfl, hcp, hh⟩ := h.shape
  by_cases h1 : x < 1
  · rw [stAt_out (.inl h1)]
    clear h hh
    go_enter Try.func37, Try.ntmps37
    go_wp2
    go_ret
    exact ⟨by simp, rfl⟩
  · by_cases h2 : (st.length : Int) < x
    · rw [stAt_out (.inr h2)]
      clear h hh
      go_enter Try.func37, Try.ntmps37
      go_wp2
      go_ret
      exact ⟨by simp, rfl⟩
    · obtain ⟨k, hk⟩ : ∃ k : Nat, x = (k : Int) + 1 := ⟨x.toNat - 1, by omega⟩
      have hkl : k < st.length := by omega
      obtain ⟨g, rfl, _, _, hcell⟩ := hh (by omega)
      have hc := hcell k hkl
      have e1 := stAt_nat hkl
      rw [← hk] at e1
      rw [e1]
      obtain ⟨s, hs⟩ : ∃ s, s = st[k] := ⟨_, rfl⟩
      rw [← hs] at hc ⊢
      have x0 : (1 : Int) ≤ x := by omega
      have x2 : x ≤ 2000000 := by have := h.hl; omega
      have e2 : x - 1 = (k : Int) := by omega
      have x3 : (k : Int) < (st.length : Int) := by omega
      clear h hh hcell e1 hs hk
      go_enter Try.func37, Try.ntmps37
      go_wp2
      go_ret
      exact ⟨rfl, rfl⟩

theorem Try.infoI64 : (Try.prog.info? 2).map (fun i => (i.zero, i.size, i.bytes)) = some (some (.int .i64 0), 1, 8) := by kernel_rfl
theorem Try.infoU8 : (Try.prog.info? 5).map (fun i => (i.zero, i.size, i.bytes)) = some (some (.int .u8 0), 1, 1) := by kernel_rfl

theorem opens_take {st : List Nat} {k : Nat} (h : k < st.length) : opens (st.take (k + 1)) = if st[k] = 1 then opens (st.take k) ++ [(k : Int) + 1] else opens (st.take k) := by
  rw [List.take_succ_eq_append_getElem h, opens, opensFrom_append, ← opens]
  have e : 1 + (st.take k).length = k + 1 := by simp; omega
  rw [e]
  simp only [opensFrom]
  split
  · simp
  · simp

set_option maxRecDepth 20000 in
set_option maxHeartbeats 1000000 in
theorem ropen_any {w : World} {B q : Nat} {v : Value} {st : List Nat} (h : Rm w B q v st) : Calls Try.prog 34 #[.pointer (some ⟨q, 0, none⟩)] w fun e w' => ∃ a c, e = .returned (.slice a (opens st).length c) ∧ w'.ownsRow w.heap.size 2 1 (.slice a (opens st).length c) (opens st).length ((opens st).map encZ) ∧ Kept w w' [] := by
  obtain ⟨a, cp, hv, _, hh⟩ := h.shape
  have H := Lib.hid h
  have HH := Lib.hid hh
  have hl20 := Lib.hid h.hl
  have c := h.cell
  rw [hv] at c
  obtain ⟨i0, hi, hz0, hz1, hz2⟩ := info_parts Try.infoI64
  have I := Lib.hid (And.intro hi (And.intro hz0 (And.intro hz1 hz2)))
  clear h hh hv hi hz0 hz1 hz2
  go_enter Try.func34, Try.ntmps34
  go_wp2
  go_loopw [3, 4] (fun u i wr => ∃ k : Nat, i = .int .i64 k ∧ k ≤ st.length ∧ wr.ownsRow w.heap.size 2 1 u (opens (st.take k)).length ((opens (st.take k)).map encZ) ∧ Fr w.heap.size [2] w wr) (fun _ i _ => st.length - (intOf i).toNat)
  case atStart => exact ⟨0, rfl, Nat.zero_le _, World.ownsRow_nil _ _ _ _, Fr.refl _ _ _⟩
  case round =>
    obtain ⟨k, rfl, hk, ho, hf⟩ := hrel
    have hkept := (Fm.ofFr hf).kept (Nat.le_refl _)
    have c' := hkept.cell (p := ⟨q, 0, none⟩) (by simp) c
    obtain ⟨ua, uc, rfl⟩ := ownsRow_shape ho
    have O := Lib.hid ho; have F := Lib.hid hf
    have hsz := hf.size
    clear ho hf
    by_cases hlt : k < st.length
    · obtain ⟨g, rfl, _, _, hcell⟩ := HH.out (by omega)
      have hc := hkept.cell (p := ⟨g, k, none⟩) (by simp) (hcell k hlt)
      have ht := opens_take hlt
      have x1 : (k : Int) < (st.length : Int) := by omega
      have x2 : (k : Int) ≤ 2000000 := by have := hl20.out; omega
      obtain ⟨s, hs⟩ : ∃ s, s = st[k] := ⟨_, rfl⟩
      rw [← hs] at hc ht
      have T := Lib.hid ht
      clear hcell ht hs hkept
      by_cases h1 : s = 1
      · subst h1
        have T' : Hid (opens (st.take (k + 1)) = opens (st.take k) ++ [(k : Int) + 1]) := Lib.hid (by have := T.out; rwa [if_pos rfl] at this)
        clear T
        go_wp2_with (at_builtin; refine wpList_append_fr _ rfl (.tmp 22) (.tmp 25) 45 45 rfl w.heap.size 2 i0 (.int .i64 0) 1 8 Try.underlying45 I.out.1 I.out.2.1 I.out.2.2.1 I.out.2.2.2 rfl _ (opens (st.take k)).length ((opens (st.take k)).map encZ) rfl ?hown _ 1 [.int .i64 ((k : Int) + 1)] rfl (src_one Try.underlying45 wr _ rfl _) ?b1 ?b2 ?base ?next)
        case hown => exact ownsRow_fr O.out ((Fr.refl 0 [] wr).alloc _) (by simp)
        case b1 => have := opens_le (st.take k); have := hl20.out; simp only [maxLen]; simp at *; omega
        case b2 => have := opens_le (st.take k); have := hl20.out; simp at *; omega
        case base => simp; omega
        case next =>
          intro v2 w2 ho2 hf2 _
          have F2 := Lib.hid ((F.out.trans ((Fr.refl _ _ wr).alloc _)).trans hf2)
          have O2 : Hid (w2.ownsRow w.heap.size 2 1 v2 (opens (st.take (k + 1))).length ((opens (st.take (k + 1))).map encZ)) := Lib.hid (by
            rw [T'.out, List.map_append, List.length_append]
            exact ho2)
          clear ho2 hf2
          go_wp2
          go_roundw
          case rel => exact ⟨k + 1, by go_num, by omega, O2.out, F2.out⟩
          case measure => simp [intOf]; omega
      · have T' : Hid (opens (st.take (k + 1)) = opens (st.take k)) := Lib.hid (by have := T.out; rwa [if_neg h1] at this)
        have x3 : ((s : Int) == 1) = false := by rw [beq_eq_false_iff_ne]; omega
        clear T
        go_wp2
        go_roundw
        case rel => exact ⟨k + 1, by go_num, by omega, by rw [T'.out]; exact O.out, F.out⟩
        case measure => simp [intOf]; omega
    · obtain rfl : k = st.length := by omega
      rw [List.take_length] at O
      have x1 : ¬ (st.length : Int) < (st.length : Int) := by omega
      rw [List.take_length]
      clear hkept
      go_wp2
      go_ret
      exact ⟨ua, uc, rfl, O.out, (Fm.ofFr F.out).kept (Nat.le_refl _)⟩


set_option maxRecDepth 20000 in
theorem rbegin_full {w : World} {B q : Nat} {v : Value} {st : List Nat} (h : Rm w B q v st) (hf : 6 ≤ (opens st).length ∨ st.length + 1 = 1048576) :
    Calls Try.prog 17 #[.pointer (some ⟨q, 0, none⟩)] w fun e w' => e = .returned (.tuple #[.int .i64 0, .int .i64 8]) ∧ Kept w w' [] := by
  have ho := Lib.hid (ropen_any h)
  have H := Lib.hid h
  obtain ⟨n, hn⟩ : ∃ n, (opens st).length = n := ⟨_, rfl⟩
  obtain ⟨N, hN⟩ : ∃ N : Int, (st.length : Int) + 1 = N := ⟨_, rfl⟩
  rw [hn] at hf ho
  have HN := Lib.hid hN
  have hN2 : 6 ≤ n ∨ N = 1048576 := by omega
  clear h hn hN hf
  by_cases h1 : 6 ≤ n
  · clear hN2
    go_enter Try.func17, Try.ntmps17
    go_wp2_with fail
    refine ho.out.mono ?_
    rintro e w1 ⟨a, c, rfl, _, hk⟩
    have K := Lib.hid hk
    clear hk
    go_wp2
    go_ret2
    exact ⟨rfl, K.out⟩
  · obtain rfl : N = 1048576 := hN2.resolve_left h1
    clear hN2
    go_enter Try.func17, Try.ntmps17
    go_wp2_with fail
    refine ho.out.mono ?_
    rintro e w1 ⟨a, c, rfl, _, hk⟩
    have K := Lib.hid hk
    have hnx := rnext_any (H.out.keep hk)
    rw [HN.out] at hnx
    clear hk
    go_wp2_with (go_at_call 35; refine hnx.mono ?_; rintro e w' ⟨rfl, rfl⟩)
    go_ret2
    exact ⟨rfl, K.out⟩

theorem sb_snoc (st : List Nat) (s : Nat) : sb (st ++ [s]) = sb st ++ [.int .u8 (s : Int)] := by simp [sb]

theorem Rm.app {w w2 : World} {B q : Nat} {v v2 : Value} {st : List Nat} {s : Nat} (h : Rm w B q v st) (hf : Fr B [5] w w2) (ho : w2.ownsRow B 5 1 v2 (st.length + 1) (sb st ++ [.int .u8 (s : Int)])) (hl : st.length + 1 < 1048576) (hs : 1 ≤ s ∧ s ≤ 3) :
    Rm (w2.setCell ⟨q, 0, none⟩ v2) B q v2 (st ++ [s]) ∧ Fr B rts w (w2.setCell ⟨q, 0, none⟩ v2) := by
  have hp := hf.heap h.hp (by decide)
  have f3 : Fr B [30] w2 (w2.setCell ⟨q, 0, none⟩ v2) := (Fr.refl B _ w2).setCell hp (.inr ⟨h.bp, by simp⟩) 0 _
  refine ⟨{ hp := by simpa using heap_setCell_at hp 0 v2, hv := ?_, bp := h.bp, hl := by simp; omega, hs := ?_ }, (hf.mono (Nat.le_refl _) (by simp [rts])).trans (f3.mono (Nat.le_refl _) (by simp [rts]))⟩
  · have := ownsRow_fr ho f3 (by decide)
    rw [sb_snoc, List.length_append]
    exact this
  · intro t ht
    rcases List.mem_append.1 ht with h1 | h1
    · exact h.hs t h1
    · simp at h1; omega

set_option maxRecDepth 20000 in
set_option maxHeartbeats 1000000 in
theorem rbegin_ok {w : World} {B q : Nat} {v : Value} {st : List Nat} (h : Rm w B q v st) (h1 : (opens st).length < 6) (h2 : st.length + 1 < 1048576) :
    Calls Try.prog 17 #[.pointer (some ⟨q, 0, none⟩)] w fun e w' => e = .returned (.tuple #[.int .i64 ((st.length : Int) + 1), .int .i64 0]) ∧ ∃ v', Rm w' B q v' (st ++ [1]) ∧ Fr B rts w w' := by
  have ho := Lib.hid (ropen_any h)
  have H := Lib.hid h
  obtain ⟨n, hn⟩ : ∃ n, (opens st).length = n := ⟨_, rfl⟩
  obtain ⟨N, hN⟩ : ∃ N : Int, (st.length : Int) + 1 = N := ⟨_, rfl⟩
  rw [hn] at h1 ho
  rw [hN]
  have h3 : decide ((1048576 : Int) ≤ N) = false := by rw [decide_eq_false_iff_not]; omega
  have h4 : ¬ (6 : Int) ≤ (n : Int) := by omega
  have HN := Lib.hid hN
  have H2 := Lib.hid h2
  obtain ⟨i0, hi, hz0, hz1, hz2⟩ := info_parts Try.infoU8
  have I := Lib.hid (And.intro hi (And.intro hz0 (And.intro hz1 hz2)))
  have hsz := h.size
  clear h hn hN h2 hi hz0 hz1 hz2
  go_enter Try.func17, Try.ntmps17
  go_wp2_with fail
  refine ho.out.mono ?_
  rintro e w1 ⟨a, c, rfl, _, hk⟩
  have K := Lib.hid hk
  have R1 := Lib.hid (H.out.keep hk)
  have hnx := rnext_any R1.out
  rw [HN.out] at hnx
  have hz1 := hk.size
  have c0 := R1.out.cell
  obtain ⟨a1, cp1, hv, _⟩ := R1.out.shape
  rw [hv] at c0
  have Hv := Lib.hid hv
  clear hk hv ho
  go_wp2_with (first
    | (go_at_call 35; refine hnx.mono ?_; rintro e w' ⟨rfl, rfl⟩)
    | (at_builtin; refine wpList_append_fr _ rfl (.tmp 17) (.tmp 18) 28 28 rfl B 5 i0 (.int .u8 0) 1 1 Try.underlying28 I.out.1 I.out.2.1 I.out.2.2.1 I.out.2.2.2 rfl _ st.length (sb st) rfl ?hown _ 1 [.int .u8 1] rfl (src_one Try.underlying28 w1 _ rfl _) ?b1 ?b2 ?base ?next))
  case hown => have := R1.out.hv; rw [Hv.out] at this; exact ownsRow_fr this ((Fr.refl 0 [] w1).alloc _) (by simp)
  case b1 => have := H2.out; simp only [maxLen]; omega
  case b2 => have := H2.out; omega
  case base => simp; omega
  case next =>
    intro v2 w2 ho2 hf2 _
    obtain ⟨a2, cp2, rfl⟩ := ownsRow_shape ho2
    have ha : Fr B [5] w1 (w1.alloc (.cells #[.int .u8 1] 5)) := (Fr.refl B _ w1).alloc _
    have F2 := Lib.hid (ha.trans hf2)
    have O2 := Lib.hid ho2
    have P2 := Lib.hid (F2.out.heap R1.out.hp (by decide))
    have f2 : w2.frozen? ⟨q, 0, none⟩ = false := frozen_of_row _ _ _ _ _ P2.out
    have c2 : w2.cell? ⟨q, 0, none⟩ = some (.slice a1 st.length cp1) := by rw [cell_of_row w2 q 0 _ _ _ P2.out, Hv.out]; rfl
    have e1 : (st.length : Int) + 1 = N := HN.out
    clear ho2 hf2 ha
    go_wp2
    go_ret2
    obtain ⟨r1, r2⟩ := R1.out.app (s := 1) F2.out O2.out H2.out (by decide)
    exact ⟨by rw [← HN.out]; rfl, _, r1, (Fr.ofKept K.out B rts).trans r2⟩

theorem rend_bad {w : World} {B q : Nat} {v : Value} {st : List Nat} (h : Rm w B q v st) (x s : Int) (hb : stAt st x ≠ 1) :
    Calls Try.prog 20 #[.pointer (some ⟨q, 0, none⟩), .int .i64 x, .int .u8 s] w fun e w' => e = .returned (.int .i64 7) ∧ w = w' := by
  have hc := rstate_any h x
  have x3 : ((stAt st x : Int) != 1) = true := by rw [bne_iff_ne]; omega
  clear h hb
  go_enter Try.func20, Try.ntmps20
  go_wp2_with (go_at_call 37; refine hc.mono ?_; rintro e w' ⟨rfl, rfl⟩)
  go_ret
  exact ⟨rfl, rfl⟩

/-- One cell of the row of states turned. -/
theorem Rm.put {w : World} {B q g c k s : Nat} {st : List Nat} (h : Rm w B q (.slice (some ⟨g, 0, none⟩) st.length c) st) (hs : 1 ≤ s ∧ s ≤ 3) :
    Rm (w.setCell ⟨g, k, none⟩ (.int .u8 (s : Int))) B q (.slice (some ⟨g, 0, none⟩) st.length c) (st.set k s) ∧ Fr B rts w (w.setCell ⟨g, k, none⟩ (.int .u8 (s : Int))) := by
  rcases h.hv.2 with ⟨hv, _⟩ | ⟨g', cap, cur, hv, hbg, hg, hnc, hcm, hcs, htk⟩
  · cases hv
  · simp only [Value.slice.injEq, Option.some.injEq, Addr.mk.injEq] at hv
    obtain ⟨⟨rfl, _⟩, _, rfl⟩ := hv
    have f3 : Fr B [5] w (w.setCell ⟨g, k, none⟩ (.int .u8 (s : Int))) := (Fr.refl B _ w).setCell hg (.inr ⟨hbg, by simp⟩) k _
    refine ⟨{ hp := f3.heap h.hp (by decide), hv := ?_, bp := h.bp, hl := by simpa using h.hl, hs := set_states h.hs hs }, f3.mono (Nat.le_refl _) (by simp [rts])⟩
    rw [List.length_set]
    refine ⟨by simp [sb_length], .inr ⟨g, c, _, rfl, hbg, heap_setCell_at hg k _, hnc, hcm, by simpa using hcs, ?_⟩⟩
    rw [Array.toList_setIfInBounds, List.take_set, htk, sb, sb, List.map_set]

set_option maxRecDepth 20000 in
theorem rend_ok {w : World} {B q : Nat} {v : Value} {st : List Nat} (h : Rm w B q v st) (x : Int) (s : Nat) (hs : 1 ≤ s ∧ s ≤ 3) (hb : stAt st x = 1) :
    Calls Try.prog 20 #[.pointer (some ⟨q, 0, none⟩), .int .i64 x, .int .u8 (s : Int)] w fun e w' => e = .returned (.int .i64 0) ∧ Rm w' B q v (st.set (x.toNat - 1) s) ∧ Fr B rts w w' := by
  have hc := rstate_any h x
  rw [hb] at hc
  obtain ⟨h1, h2⟩ := stAt_in (by rw [hb]; decide : stAt st x ≠ 0)
  obtain ⟨k, hk⟩ : ∃ k : Nat, x = (k : Int) + 1 := ⟨x.toNat - 1, by omega⟩
  have hkl : k < st.length := by omega
  have ek : x.toNat - 1 = k := by omega
  rw [ek]
  have c0 := h.cell
  obtain ⟨a, cp, rfl, hcp, hh⟩ := h.shape
  obtain ⟨g, rfl, _, ⟨cur, hcur⟩, hcell⟩ := hh (by omega)
  have hc1 := hcell k hkl
  have fz : w.frozen? ⟨g, k, none⟩ = false := frozen_of_row _ _ _ _ _ hcur
  obtain ⟨u, hu⟩ : ∃ u, u = st[k] := ⟨_, rfl⟩
  rw [← hu] at hc1
  have x0 : (1 : Int) ≤ x := by omega
  have x2 : x ≤ 2000000 := by have := h.hl; omega
  have e2 : x - 1 = (k : Int) := by omega
  have x3 : (k : Int) < (st.length : Int) := by omega
  have r := h.put (k := k) hs
  have Rr := Lib.hid r
  clear h hb hh hcell hu hk ek hs r hcur
  go_enter Try.func20, Try.ntmps20
  go_wp2_with (go_at_call 37; refine hc.mono ?_; rintro e w' ⟨rfl, rfl⟩)
  go_ret
  exact ⟨rfl, Rr.out⟩

end Go.Proofs.Ytdjhcdgehmpikaa
