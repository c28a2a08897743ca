/-
  RefRead2, Read3, Items, Ev0, Ea in one text.
-/
import Derived.Test.YtjdbmlifekghfaaEr1
import Derived.Lib.SlBytesRow
import Derived.Test.YtjdbmlifekghfaaEr0
namespace Go.Proofs.Ytjdbmlifekghfaa
open Go.RowKit

set_option maxHeartbeats 1000000 in
set_option maxRecDepth 100000 in
theorem refread_any (v : Value) (e : Int) (l : List UInt8) (w : World) (h : Rd w v l) (hl : l.length ≤ 1099511627796) :
    Calls Try.prog 66 #[.agg #[v, .int .i64 e]] w fun en w' => ∃ v', en = .returned (.tuple #[.int .u64 (rNum e l).1, .agg #[v', .int .i64 (rNum e l).2.2]]) ∧ Rd w' v' (rNum e l).2.1 ∧ Kept w w' [] ∧ (∀ x, v'.ownBlock = some x → v.ownBlock = some x) := by
  obtain ⟨a, c, rfl, hc, ha, hcell⟩ := id h
  by_cases he : e = 0
  · subst he
    by_cases hne : l = []
    · subst hne
      have hr : rNum 0 [] = (0, [], 3) := by decide
      have Hr := Lib.hid hr
      clear hr hcell ha h
      go_enter Try.func66, Try.ntmps66
      go_wp2
      go_loop [6] (fun i => i = .int .i64 0) (fun _ => 0)
      case atStart => rfl
      case round =>
        subst hrel
        go_wp2
        refine bodyPost_ret (v := .tuple #[.int .u64 0, .agg #[.slice none 0 0, .int .i64 3]]) (by simp [results, Try.results66, go_sem]) rfl ?_
        rw [Hr.out]
        exact ⟨_, rfl, Rd.nil _, ((Kept.refl w []).alloc _).alloc _, by simp [Value.ownBlock]⟩
    · obtain ⟨b, o, rfl, hcell2⟩ := hcell hne
      refine (refread_some b o c l w hc (List.length_pos_iff.2 hne) hcell2 hl).mono ?_
      rintro en w' ⟨v', rfl, h1, h2, h3⟩
      exact ⟨v', rfl, h1, h2, fun x hx => by rw [h3 x hx]; rfl⟩
  · have hr : rNum e l = (0, l, e) := by rw [rNum, if_neg he]
    have hx0 : (e != 0) = true := by simpa using he
    have Hr := Lib.hid hr
    have H := Lib.hid h
    clear hr hcell ha h he
    go_enter Try.func66, Try.ntmps66
    go_wp2
    go_region
    go_wp2
    refine bodyPost_ret (v := .tuple #[.int .u64 0, .agg #[.slice a l.length c, .int .i64 e]]) (by simp [results, Try.results66, go_sem]) rfl ?_
    rw [Hr.out]
    have hk := (((Kept.refl w []).alloc (.cells #[.slice a l.length c, .int .i64 e] 95)).alloc (.cells #[.slice a l.length c, .int .i64 e] 95)).drew
    exact ⟨_, rfl, H.out.kept hk (by simp), hk, fun x hx => hx⟩

set_option maxHeartbeats 400000 in
set_option maxRecDepth 100000 in
theorem refend_any (v : Value) (e : Int) (l : List UInt8) (w : World) (h : Rd w v l) :
    Calls Try.prog 38 #[.agg #[v, .int .i64 e]] w fun en w' => en = .returned (.int .i64 (rEnd e l)) ∧ Kept w w' [] := by
  obtain ⟨a, c, rfl, hc, ha, hcell⟩ := h
  clear ha hcell
  by_cases he : e = 0
  · subst he
    by_cases hne : l = []
    · subst hne
      go_enter Try.func38, Try.ntmps38
      go_wp2
      go_ret
      exact ⟨rfl, (Kept.refl w []).alloc _⟩
    · have hp : (0 : Int) < (l.length : Int) := by have := List.length_pos_iff.2 hne; omega
      have hx : rEnd 0 l = 2 := by rw [rEnd, if_pos rfl, if_neg hne]
      have Hx := Lib.hid hx
      clear hx
      go_enter Try.func38, Try.ntmps38
      go_wp2
      go_ret
      exact ⟨ret_i64 Hx.out.symm, (Kept.refl w []).alloc _⟩
  · have hx0 : (e == 0) = false := by simpa using he
    have hx : rEnd e l = e := by rw [rEnd, if_neg he]
    have Hx := Lib.hid hx
    clear hx he
    go_enter Try.func38, Try.ntmps38
    go_wp2
    go_ret
    exact ⟨ret_i64 Hx.out.symm, (Kept.refl w []).alloc _⟩

theorem Rd.kept2 {w w' : World} {v : Value} {l : List UInt8} {bs : List Nat} (h : Rd w v l) (hk : Kept w w' bs) (hb : l ≠ [] → ∀ b, v.ownBlock = some b → b ∉ bs) : Rd w' v l := by
  obtain ⟨a, c, rfl, hc, ha, hl⟩ := h
  refine ⟨a, c, rfl, hc, ha, fun hne => ?_⟩
  obtain ⟨b, o, rfl, hcell⟩ := hl hne
  exact ⟨b, o, rfl, fun i hi => hk.cell (p := ⟨b, o + i, none⟩) (hb hne b rfl) (hcell i hi)⟩

theorem Rd.block_lt {w : World} {v : Value} {l : List UInt8} (h : Rd w v l) (hne : l ≠ []) : ∀ b, v.ownBlock = some b → b < w.heap.size := by
  obtain ⟨a, c, rfl, hc, ha, hl⟩ := h
  obtain ⟨b, o, rfl, hcell⟩ := hl hne
  intro x hx
  simp [Value.ownBlock] at hx
  subst hx
  exact World.block_lt_of_cell? w _ (hcell 0 (List.length_pos_iff.2 hne))

theorem Rd.not_new {w : World} {v v' : Value} {l l' : List UInt8} (h : Rd w v l) (hlen : l'.length ≤ l.length) (hb : ∀ x, v'.ownBlock = some x → v.ownBlock = some x) {k : Nat} (hk : w.heap.size ≤ k) : l' ≠ [] → ∀ b, v'.ownBlock = some b → b ∉ [k] := by
  intro hne b hb'
  have := h.block_lt (by rintro rfl; exact hne (List.eq_nil_of_length_eq_zero (by simpa using hlen))) b (hb b hb')
  simp
  omega

theorem two_cells {w : World} {p : Nat} {x y : Value} {T : TypeId} (h : w.heap[p]? = some (.cells #[x, y] T (0, 0))) (u v : Value) (o : Obj) :
    (((w.setCell ⟨p, 0, none⟩ u).setCell ⟨p, 1, none⟩ v).alloc o).cell? ⟨p, 0, none⟩ = some u ∧ (((w.setCell ⟨p, 0, none⟩ u).setCell ⟨p, 1, none⟩ v).alloc o).cell? ⟨p, 1, none⟩ = some v := by
  have h1 := heap_setCell_at h 0 u
  have h2 := heap_setCell_at h1 1 v
  have hlt : p < ((w.setCell ⟨p, 0, none⟩ u).setCell ⟨p, 1, none⟩ v).heap.size := (Array.getElem?_eq_some_iff.1 h2).1
  rw [World.cell?_alloc_past _ _ _ hlt, World.cell?_alloc_past _ _ _ hlt, cell_of_row _ _ _ _ _ _ h2, cell_of_row _ _ _ _ _ _ h2]
  exact ⟨rfl, rfl⟩

def unzig (n : Nat) : Int := if n % 2 = 1 then -((n / 2 : Nat) : Int) - 1 else ((n / 2 : Nat) : Int)

set_option maxHeartbeats 1000000 in
set_option maxRecDepth 100000 in
theorem refreadint_any (v : Value) (e : Int) (l : List UInt8) (w : World) (h : Rd w v l) (hl : l.length ≤ 1099511627796) :
    Calls Try.prog 35 #[.agg #[v, .int .i64 e]] w fun en w' => ∃ v', en = .returned (.tuple #[.int .i64 (unzig (rNum e l).1), .agg #[v', .int .i64 (rNum e l).2.2]]) ∧ Rd w' v' (rNum e l).2.1 ∧ Kept w w' [] ∧ (∀ x, v'.ownBlock = some x → v.ownBlock = some x) := by
  have H := Lib.hid h
  obtain ⟨a, len, c, hv⟩ := h.shape3
  clear h
  subst hv
  have hn2 := rNum_lt e l
  obtain ⟨n, hn⟩ : ∃ n, n = (rNum e l).1 := ⟨_, rfl⟩
  rw [← hn] at hn2
  have Hn := Lib.hid hn; clear hn
  go_enter Try.func35, Try.ntmps35
  go_wp2_with fail
  refine (refread_any _ e l _ (H.out.kept (((Kept.refl w []).alloc _).alloc _) (by simp)) hl).mono ?_
  rintro en w1 ⟨v1, rfl, hr1, hk1, hb1⟩
  have hB : w1.heap[w.heap.size + 1]? = some (.cells #[.slice none 0 0, .int .i64 0] 95 (0, 0)) := hk1.heap (by simp) (by
    have := heap_alloc_new (w.alloc (.cells #[.slice a len c, .int .i64 e] 95)) (.cells #[.slice none 0 0, .int .i64 0] 95)
    simpa using this)
  have hlt : w.heap.size + 1 < w1.heap.size := (Array.getElem?_eq_some_iff.1 hB).1
  have k0 : w1.cell? ⟨w.heap.size + 1, 0, none⟩ = some (.slice none 0 0) := by simpa using cell_of_row w1 (w.heap.size + 1) 0 _ _ _ hB
  have k1 : w1.cell? ⟨w.heap.size + 1, 1, none⟩ = some (.int .i64 0) := by simpa using cell_of_row w1 (w.heap.size + 1) 1 _ _ _ hB
  have f0 := frozen_of_row w1 (w.heap.size + 1) 0 _ _ hB
  have f1 := frozen_of_row w1 (w.heap.size + 1) 1 _ _ hB
  obtain ⟨a1, n1, c1, hv1⟩ := hr1.shape3
  obtain ⟨e1, he1⟩ : ∃ e1, e1 = (rNum e l).2.2 := ⟨_, rfl⟩
  have Hr1 := Lib.hid hr1; have Hk1 := Lib.hid (((((Kept.refl w []).alloc _).alloc _)).trans hk1 (by simp)); have Hb1 := Lib.hid hb1
  rw [← Hn.out, ← he1]
  have He := Lib.hid he1
  clear hr1 hk1 hb1 he1
  subst hv1
  obtain ⟨q0, q1⟩ := two_cells hB (.slice a1 n1 c1) (.int .i64 e1) (.cells #[.slice a1 n1 c1, .int .i64 e1] 95)
  clear hB
  by_cases ho : n % 2 = 1
  · have x1 : ((n : Int) % 2 == 1) = true := by simp; omega
    have Hu : RowKit.Hid (unzig n = -((n / 2 : Nat) : Int) - 1) := Lib.hid (by rw [unzig, if_pos ho])
    clear ho
    go_wp2
    go_region
    go_wp2
    refine bodyPost_ret (v := .tuple #[.int .i64 (-(n / 2 : Int) - 1), .agg #[.slice a1 n1 c1, .int .i64 e1]]) (by simp [results, Try.results35, go_sem, q0, q1]) rfl ?_
    have hk3 : ∀ o : Obj, Kept w1 (((w1.setCell ⟨w.heap.size + 1, 0, none⟩ (.slice a1 n1 c1)).setCell ⟨w.heap.size + 1, 1, none⟩ (.int .i64 e1)).alloc o).drew [w.heap.size + 1] := fun o =>
      ((((Kept.refl w1 _).setCell (.inl (by simp)) _).setCell (.inl (by simp)) _).alloc o).drew
    rw [← Hn.out, ← He.out, Hu.out]
    exact ⟨_, rfl, Hr1.out.kept2 (hk3 _) (H.out.not_new (rNum_len e l) Hb1.out (by omega)), Hk1.out.trans (hk3 _) (by simp), Hb1.out⟩
  · have x1 : ((n : Int) % 2 == 1) = false := by simp; omega
    have Hu : RowKit.Hid (unzig n = ((n / 2 : Nat) : Int)) := Lib.hid (by rw [unzig, if_neg ho])
    clear ho
    go_wp2
    go_region
    go_wp2
    refine bodyPost_ret (v := .tuple #[.int .i64 ((n / 2 : Int)), .agg #[.slice a1 n1 c1, .int .i64 e1]]) (by simp [results, Try.results35, go_sem, q0, q1]) rfl ?_
    have hk3 : ∀ o : Obj, Kept w1 (((w1.setCell ⟨w.heap.size + 1, 0, none⟩ (.slice a1 n1 c1)).setCell ⟨w.heap.size + 1, 1, none⟩ (.int .i64 e1)).alloc o).drew [w.heap.size + 1] := fun o =>
      ((((Kept.refl w1 _).setCell (.inl (by simp)) _).setCell (.inl (by simp)) _).alloc o).drew
    rw [← Hn.out, ← He.out, Hu.out]
    exact ⟨_, rfl, Hr1.out.kept2 (hk3 _) (H.out.not_new (rNum_len e l) Hb1.out (by omega)), Hk1.out.trans (hk3 _) (by simp), Hb1.out⟩

end Go.Proofs.Ytjdbmlifekghfaa

namespace Go.Proofs.Ytjdbmlifekghfaa
open Go.RowKit

set_option maxHeartbeats 1000000 in
set_option maxRecDepth 100000 in
theorem rint_any (r : Nat) (v : Value) (e : Int) (l : List UInt8) (w : World) (h : Rr w r v e l) (hl : l.length ≤ 1099511627796) :
    Calls Try.prog 59 #[.pointer (some ⟨r, 0, none⟩)] w fun en w' => en = .returned (.int .i64 (unzig (rNum e l).1)) ∧ ∃ v', Rr w' r v' (rNum e l).2.2 (rNum e l).2.1 ∧ Kept w w' [r] ∧ (∀ b, v'.ownBlock = some b → v.ownBlock = some b) := by
  have H := Lib.hid h; clear h
  have hn2 := rNum_lt e l
  obtain ⟨n, hn⟩ : ∃ n, n = (rNum e l).1 := ⟨_, rfl⟩
  rw [← hn] at hn2
  have Hn := Lib.hid hn; clear hn
  have hx2 : bits .and .u64 (n : Int) 1 = (n : Int) % 2 := Lib.u64_and1 n (by omega) (by omega)
  go_enter Try.func59, Try.ntmps59
  go_wp2_with fail
  refine (rnum_any r v e l w H.out hl).mono ?_
  rintro en w1 ⟨rfl, hq⟩
  have Hq := Lib.hid hq; clear hq
  rw [← Hn.out]
  by_cases ho : n % 2 = 1
  · have x1 : ((n : Int) % 2 == 1) = true := by simp; omega
    have Hu : RowKit.Hid (unzig n = -((n / 2 : Nat) : Int) - 1) := Lib.hid (by rw [unzig, if_pos ho])
    clear ho
    go_wp2
    all_goals
      go_ret
      refine ⟨ret_i64 ?_, Hq.out⟩
      rw [← Hn.out, Hu.out, show ((n : Int) / 2) = ((n / 2 : Nat) : Int) from by omega]
      exact Lib.i64_not (n / 2) (by omega)
  · have x1 : ((n : Int) % 2 == 1) = false := by simp; omega
    have Hu : RowKit.Hid (unzig n = ((n / 2 : Nat) : Int)) := Lib.hid (by rw [unzig, if_neg ho])
    clear ho
    go_wp2
    go_ret
    refine ⟨ret_i64 ?_, Hq.out⟩
    rw [← Hn.out, Hu.out]
    omega

def rTextOf (most : Int) (n : Nat) (l1 : List UInt8) (e1 : Int) : List UInt8 × List UInt8 × Int :=
  if e1 = 0 then (if max most 0 < (n : Int) then ([], [], 2) else if l1.length < n then ([], [], 3) else (l1.take n, l1.drop n, 0)) else ([], l1, e1)
def rText (most e : Int) (l : List UInt8) : List UInt8 × List UInt8 × Int := rTextOf most (rNum e l).1 (rNum e l).2.1 (rNum e l).2.2

def strL (l : List UInt8) : ByteArray := ⟨l.toArray⟩

theorem ret_str {a b : ByteArray} (h : a = b) : Ending.returned (.string a) = .returned (.string b) := by rw [h]

set_option maxRecDepth 100000 in
theorem conv_empty (w : World) (x : Option Addr) (k : Nat) : (convert 22 9 (.slice x 0 k)).run Try.prog w = .ok (.string ⟨#[]⟩) w := by
  rw [run_convert_bytes_string w 22 9 5 x 0 k Try.underlying22 Try.underlying5 Try.underlying9]
  cases x <;> simp [Conv.bytesToString, loadCells, loadCellsFrom] <;> rfl

set_option maxRecDepth 100000 in
theorem conv_take (w : World) (b o k n : Nat) (l : List UInt8) (hn : n ≤ l.length) (hcell : ∀ i, i < l.length → w.cell? ⟨b, o + i, none⟩ = some (.int .u8 (l.getD i 0).toNat)) :
    (convert 22 9 (.slice (some ⟨b, o, none⟩) n k)).run Try.prog w = .ok (.string (strL (l.take n))) w := by
  have h := run_convert_bytes_arg (P := Try.prog) w 22 5 Try.underlying22 Try.underlying5 b o n k ((l.take n).map fun x => (x.toNat : Int)) (by simp; omega) (fun i hi => by
    rw [hcell i (by omega)]
    simp [List.getD, hi, show i < l.length by omega]) 9 Try.underlying9
  rw [h]
  congr 2
  apply ByteArray.ext
  apply Array.toList_inj.1
  rw [strOfNums_data, List.map_map]
  show _ = l.take n
  conv => rhs; rw [← List.map_id (l.take n)]
  apply List.map_congr_left
  intro x _
  simp

set_option maxHeartbeats 1000000 in
set_option maxRecDepth 100000 in
theorem rtext_any (r : Nat) (v : Value) (most e : Int) (l : List UInt8) (w : World) (h : Rr w r v e l) (hl : l.length ≤ 1099511627796) (hm : -9223372036854775808 ≤ most ∧ most ≤ 9223372036854775807) :
    Calls Try.prog 61 #[.pointer (some ⟨r, 0, none⟩), .int .i64 most] w fun en w' => en = .returned (.string (strL (rText most e l).1)) ∧ ∃ v', Rr w' r v' (rText most e l).2.2 (rText most e l).2.1 ∧ Kept w w' [r] ∧ (∀ b, v'.ownBlock = some b → v.ownBlock = some b) := by
  have H := Lib.hid h; clear h
  obtain ⟨h1, h2⟩ := hm
  have hn2 := rNum_lt e l
  have hln := rNum_len e l
  obtain ⟨n, hn⟩ : ∃ n, n = (rNum e l).1 := ⟨_, rfl⟩
  obtain ⟨l1, hl1⟩ : ∃ l1, l1 = (rNum e l).2.1 := ⟨_, rfl⟩
  obtain ⟨e1, he1⟩ : ∃ e1, e1 = (rNum e l).2.2 := ⟨_, rfl⟩
  have hT : rText most e l = rTextOf most n l1 e1 := by rw [rText, ← hn, ← hl1, ← he1]
  rw [← hn] at hn2
  rw [← hl1] at hln
  have Hn := Lib.hid hn; have Hl1 := Lib.hid hl1; have He1 := Lib.hid he1; have HT := Lib.hid hT
  clear hn hl1 he1 hT
  go_enter Try.func61, Try.ntmps61
  go_wp2_with fail
  refine (rnum_any r v e l w H.out hl).mono ?_
  rintro en w1 ⟨rfl, v1, hr1, hk1, hb1⟩
  rw [← Hl1.out, ← He1.out] at hr1
  have Hr1 := Lib.hid hr1; have Hk1 := Lib.hid hk1; have Hb1 := Lib.hid hb1
  clear hr1 hk1 hb1
  rw [← Hn.out]
  go_wp2_with fail
  refine (error_any r v1 e1 l1 w1 Hr1.out).mono ?_
  rintro en w2 ⟨rfl, rfl⟩
  by_cases he : e1 = 0
  · subst he
    by_cases hmx : max most 0 < (n : Int)
    · have HX : RowKit.Hid (rText most e l = ([], [], 2)) := Lib.hid (by rw [HT.out, rTextOf, if_pos rfl, if_pos hmx])
      go_wp2_with fail
      refine (fail_any r v1 0 2 l1 w1 Hr1.out).mono ?_
      rintro en w3 ⟨rfl, q1, q2⟩
      have Q1 := Lib.hid q1; have Q2 := Lib.hid (Hk1.out.trans q2 (fun x hx => .inl hx)); clear q1 q2
      go_wp2
      go_ret
      rw [HX.out]
      exact ⟨rfl, _, Q1.out, Q2.out, by simp [Value.ownBlock]⟩
    · obtain ⟨c0, c1, f0, f1⟩ := Hr1.out.cells
      by_cases hlen : l1.length < n
      · have HX : RowKit.Hid (rText most e l = ([], [], 3)) := Lib.hid (by rw [HT.out, rTextOf, if_pos rfl, if_neg hmx, if_pos hlen])
        obtain ⟨a, c, hv, _⟩ := Hr1.out.2.1
        have Hv := Lib.hid hv
        rw [hv] at c0
        have hlen2 : (l1.length : Int) < (n : Int) := by omega
        clear hv
        go_wp2_with fail
        refine (fail_any r v1 0 3 l1 w1 Hr1.out).mono ?_
        rintro en w3 ⟨rfl, q1, q2⟩
        have Q1 := Lib.hid q1; have Q2 := Lib.hid (Hk1.out.trans q2 (fun x hx => .inl hx)); clear q1 q2
        go_wp2
        go_ret
        rw [HX.out]
        exact ⟨rfl, _, Q1.out, Q2.out, by simp [Value.ownBlock]⟩
      · have HX : RowKit.Hid (rText most e l = (l1.take n, l1.drop n, 0)) := Lib.hid (by rw [HT.out, rTextOf, if_pos rfl, if_neg hmx, if_neg hlen])
        have hlen2 : ¬ (l1.length : Int) < (n : Int) := by omega
        obtain ⟨a, c, hv, hcc, hna, hcell⟩ := Hr1.out.2.1
        by_cases hne : l1 = []
        · subst hne
          obtain rfl : n = 0 := by simpa using hlen
          have hcv : ∀ (x : Option Addr) (k : Nat), (convert 22 9 (.slice x 0 k)).run Try.prog w1 = .ok (.string ⟨#[]⟩) w1 := conv_empty w1
          have Hv := Lib.hid hv
          rw [hv] at c0
          clear hv hcell
          cases a with
          | none =>
            obtain rfl := hna rfl
            clear hna
            go_wp2
            go_ret
            rw [HX.out]
            have hk := (Kept.refl w1 [r]).setCell (p := ⟨r, 0, none⟩) (.inl (by simp)) (.slice none 0 0)
            exact ⟨rfl, .slice none 0 0, ⟨by simpa using heap_setCell_at Hr1.out.1 0 (.slice none 0 0), Rd.nil _, by simp [Value.ownBlock]⟩, Hk1.out.trans hk (fun x hx => .inl hx), by simp [Value.ownBlock]⟩
          | some x =>
            clear hna
            go_wp2
            go_ret
            rw [HX.out]
            have hk := (Kept.refl w1 [r]).setCell (p := ⟨r, 0, none⟩) (.inl (by simp)) (.slice (some x) 0 c)
            have hb : ∀ y, (Value.slice (some x) 0 c).ownBlock = some y → v1.ownBlock = some y := by rw [Hv.out]; exact fun y hy => hy
            exact ⟨rfl, .slice (some x) 0 c, ⟨by simpa using heap_setCell_at Hr1.out.1 0 (.slice (some x) 0 c), ⟨some x, c, rfl, Nat.zero_le _, by simp, fun h => absurd rfl h⟩, fun y hy => Hr1.out.2.2 y (hb y hy)⟩, Hk1.out.trans hk (fun x hx => .inl hx), fun y hy => Hb1.out y (hb y hy)⟩
        · obtain ⟨b, o, rfl, hcell2⟩ := hcell hne
          have hcv : ∀ k : Nat, (convert 22 9 (.slice (some ⟨b, o, none⟩) n k)).run Try.prog w1 = .ok (.string (strL (l1.take n))) w1 := fun k => conv_take w1 b o k n l1 (by omega) hcell2
          obtain ⟨S, hS⟩ : ∃ S, S = strL (l1.take n) := ⟨_, rfl⟩
          rw [← hS] at hcv
          have HS := Lib.hid hS; have Hv := Lib.hid hv; have Hcell := Lib.hid hcell2
          rw [hv] at c0
          clear hv hcell hcell2 hna hS
          by_cases hcs : c = n
          · subst hcs
            go_wp2
            go_ret
            obtain ⟨q1, q2, q3⟩ := Hr1.out.cut Hv.out Hcell.out c o 0 0 (by omega) (by omega) (by omega)
            rw [HX.out]
            exact ⟨ret_str HS.out, _, q1, Hk1.out.trans q2 (fun x hx => .inl hx), fun x hx => Hb1.out x (q3 x hx)⟩
          · have hcs' : (n : Int) < (c : Int) := by omega
            go_wp2
            go_ret
            obtain ⟨q1, q2, q3⟩ := Hr1.out.cut Hv.out Hcell.out n (o + n) (l1.length - n) (c - n) rfl (by omega) (fun _ => rfl)
            rw [HX.out]
            exact ⟨ret_str HS.out, _, q1, Hk1.out.trans q2 (fun x hx => .inl hx), fun x hx => Hb1.out x (q3 x hx)⟩
  · have x1 : (e1 != 0) = true := by simpa using he
    have HX : RowKit.Hid (rText most e l = ([], l1, e1)) := Lib.hid (by rw [HT.out, rTextOf, if_neg he])
    clear he
    go_wp2
    go_ret
    rw [HX.out]
    exact ⟨rfl, v1, Hr1.out, Hk1.out, Hb1.out⟩

end Go.Proofs.Ytjdbmlifekghfaa

namespace Go.Proofs.Ytjdbmlifekghfaa
open Go.RowKit

theorem rn_back (t : List UInt8) (n : Nat) : ∀ (i acc : Nat), n * 128 ^ i < 18446744073709551616 → (0 < i → 0 < n) → i ≤ 9 → rn i acc (numL n ++ t) = (acc + n * 128 ^ i, i + (numL n).length, 0) := by
  induction n using Nat.strongRecOn with
  | _ n ih =>
    intro i acc hlt hpos hi
    by_cases h : n < 128
    · rw [numL_small h, List.cons_append, rn]
      have e : (UInt8.ofNat n).toNat = n := by rw [UInt8.toNat_ofNat']; omega
      rw [e, if_neg, if_pos h]
      · simp
      · rintro (⟨h9, h1⟩ | ⟨h1, h2⟩)
        · subst h9
          have : 2 * 128 ^ 9 ≤ n * 128 ^ 9 := Nat.mul_le_mul_right _ h1
          omega
        · have := hpos h1; omega
    · have e : (UInt8.ofNat (n % 128 + 128)).toNat = n % 128 + 128 := by rw [UInt8.toNat_ofNat']; omega
      have hi9 : i ≠ 9 := by
        rintro rfl
        have : 128 * 128 ^ 9 ≤ n * 128 ^ 9 := Nat.mul_le_mul_right _ (by omega)
        omega
      have hdm : n / 128 * 128 ^ (i + 1) + n % 128 * 128 ^ i = n * 128 ^ i := by
        rw [Nat.pow_succ, Nat.mul_comm (128 ^ i) 128, ← Nat.mul_assoc, ← Nat.add_mul]
        congr 1
        omega
      rw [numL_great (by omega), List.cons_append, rn, e, if_neg (by omega), if_neg (by omega), ih (n / 128) (by omega) (i + 1) _ (by omega) (by intro _; omega) (by omega)]
      rw [show n % 128 + 128 - 128 = n % 128 from by omega]
      simp only [List.length_cons, Prod.mk.injEq, and_true]
      omega

theorem rNum_back (n : Nat) (t : List UInt8) (hn : n < 18446744073709551616) : rNum 0 (numL n ++ t) = (n, t, 0) := by
  have h : rdN (numL n ++ t) = (n, (numL n).length, 0) := by
    have := rn_back t n 0 0 (by simpa using hn) (by omega) (by omega)
    simpa [rdN] using this
  rw [rNum, if_pos rfl, if_pos (by rw [h]), h]
  simp

theorem unzig_zigzag (x : Int) : unzig (Lib.zigzag x) = x := by
  unfold unzig Lib.zigzag
  by_cases h : 0 ≤ x
  · rw [if_pos h, if_neg (by omega)]; omega
  · rw [if_neg h, if_pos (by omega)]; omega

theorem rText_back (most : Int) (s t : List UInt8) (hs : (s.length : Int) ≤ max most 0) (hl : s.length < 18446744073709551616) : rText most 0 (textL s ++ t) = (s, t, 0) := by
  have h : rNum 0 (textL s ++ t) = (s.length, s ++ t, 0) := by
    unfold textL
    rw [List.append_assoc]
    exact rNum_back _ _ hl
  rw [rText, h, rTextOf, if_pos rfl, if_neg (by simp only; omega), if_neg (by simp)]
  simp

end Go.Proofs.Ytjdbmlifekghfaa

namespace Go.Proofs.Ytjdbmlifekghfaa
open Go.RowKit

structure Ev where
  id : Int
  tx : Int
  ow : ByteArray
  tr : Int
  tb : Int
  kd : Int
  key : Int
  t : ByteArray

def Ev.zero : Ev := ⟨0, 0, ⟨#[]⟩, 0, 0, 0, 0, ⟨#[]⟩⟩

def Ev.cs (e : Ev) : Array Value := #[.int .i64 e.id, .int .i64 e.tx, .string e.ow, .int .i64 e.tr, .int .i64 e.tb, .int .u8 e.kd, .int .i64 e.key, .string e.t]

end Go.Proofs.Ytjdbmlifekghfaa

namespace Go.Proofs.Ytjdbmlifekghfaa
open Go.RowKit

structure Ev.Ok (e : Ev) : Prop where
  id : -9223372036854775808 ≤ e.id ∧ e.id ≤ 9223372036854775807
  tx : -9223372036854775808 ≤ e.tx ∧ e.tx ≤ 9223372036854775807
  tr : -9223372036854775808 ≤ e.tr ∧ e.tr ≤ 9223372036854775807
  tb : -9223372036854775808 ≤ e.tb ∧ e.tb ≤ 9223372036854775807
  kd : 0 ≤ e.kd ∧ e.kd ≤ 255
  key : -9223372036854775808 ≤ e.key ∧ e.key ≤ 9223372036854775807
  ow : e.ow.size ≤ 9223372036854775807
  t : e.t.size ≤ 9223372036854775807

structure Ev.Right (e : Ev) : Prop where
  id : 1 ≤ e.id
  tx : 1 ≤ e.tx
  ow : e.ow.size ≤ 40
  t : e.t.size ≤ 40
  tr : 0 ≤ e.tr ∧ e.tr ≤ 2147483647
  tb : 0 ≤ e.tb ∧ e.tb ≤ 3
  kd : 1 ≤ e.kd ∧ e.kd ≤ 4

def Ev.rightB (e : Ev) : Bool :=
  decide (1 ≤ e.id) && decide (1 ≤ e.tx) && decide (e.ow.size ≤ 40) && decide (e.t.size ≤ 40) && decide (0 ≤ e.tr) && decide (e.tr ≤ 2147483647) && decide (0 ≤ e.tb) && decide (e.tb ≤ 3) && decide (1 ≤ e.kd) && decide (e.kd ≤ 4)

theorem Ev.rightB_iff (e : Ev) : e.rightB = true ↔ e.Right := by
  unfold Ev.rightB
  simp only [Bool.and_eq_true, decide_eq_true_eq]
  constructor
  · rintro ⟨⟨⟨⟨⟨⟨⟨⟨⟨h1, h2⟩, h3⟩, h4⟩, h5⟩, h6⟩, h7⟩, h8⟩, h9⟩, h10⟩
    exact ⟨h1, h2, h3, h4, ⟨h5, h6⟩, ⟨h7, h8⟩, ⟨h9, h10⟩⟩
  · rintro ⟨h1, h2, h3, h4, ⟨h5, h6⟩, ⟨h7, h8⟩, ⟨h9, h10⟩⟩
    exact ⟨⟨⟨⟨⟨⟨⟨⟨⟨h1, h2⟩, h3⟩, h4⟩, h5⟩, h6⟩, h7⟩, h8⟩, h9⟩, h10⟩

def Ev.r8 (e : Ev) : List UInt8 := textL e.t.data.toList
def Ev.r7 (e : Ev) : List UInt8 := intL e.key ++ e.r8
def Ev.r6 (e : Ev) : List UInt8 := numL e.kd.toNat ++ e.r7
def Ev.r5 (e : Ev) : List UInt8 := numL e.tb.toNat ++ e.r6
def Ev.r4 (e : Ev) : List UInt8 := numL e.tr.toNat ++ e.r5
def Ev.r3 (e : Ev) : List UInt8 := textL e.ow.data.toList ++ e.r4
def Ev.r2 (e : Ev) : List UInt8 := numL e.tx.toNat ++ e.r3
def Ev.encL (e : Ev) : List UInt8 := numL e.id.toNat ++ e.r2

theorem size_list (s : ByteArray) : s.data.toList.length = s.size := by rw [Array.length_toList]; rfl

theorem Ev.encL_len {e : Ev} (h : e.Right) (o : e.Ok) : e.encL.length ≤ 200 := by
  have a1 := numL_ten (n := e.id.toNat) (by have := o.id; omega)
  have a2 := numL_ten (n := e.tx.toNat) (by have := o.tx; omega)
  have a3 := numL_ten (n := e.tr.toNat) (by have := o.tr; omega)
  have a4 := numL_ten (n := e.tb.toNat) (by have := o.tb; omega)
  have a5 := numL_ten (n := e.kd.toNat) (by have := o.kd; omega)
  have a6 := numL_ten (Lib.zigzag_lt o.key.1 o.key.2)
  have a7 := numL_ten (n := e.ow.data.toList.length) (by have := h.ow; rw [size_list]; omega)
  have a8 := numL_ten (n := e.t.data.toList.length) (by have := h.t; rw [size_list]; omega)
  have b1 := h.ow
  have b2 := h.t
  have b3 := size_list e.ow
  have b4 := size_list e.t
  simp only [Ev.encL, Ev.r2, Ev.r3, Ev.r4, Ev.r5, Ev.r6, Ev.r7, Ev.r8, textL, intL, List.length_append]
  omega

structure Sd where
  bad : Bool
  e : Int
  l : List UInt8

def badN (lo hi : Nat) (e1 : Int) (n : Nat) : Bool := decide (e1 = 0) && (decide (n < lo) || decide (hi < n))

def stN (lo hi : Nat) (s : Sd) : Nat × Sd :=
  ((rNum s.e s.l).1, ⟨s.bad || badN lo hi (rNum s.e s.l).2.2 (rNum s.e s.l).1, (rNum s.e s.l).2.2, (rNum s.e s.l).2.1⟩)
def stT (s : Sd) : List UInt8 × Sd := ((rText 40 s.e s.l).1, ⟨s.bad, (rText 40 s.e s.l).2.2, (rText 40 s.e s.l).2.1⟩)
def stI (s : Sd) : Int × Sd := (unzig (rNum s.e s.l).1, ⟨s.bad, (rNum s.e s.l).2.2, (rNum s.e s.l).2.1⟩)

def rfN (lo hi : Nat) (e : Int) (l : List UInt8) : Nat × List UInt8 × Int :=
  if badN lo hi (rNum e l).2.2 (rNum e l).1 = true then (0, [], 2) else rNum e l
def rfI (e : Int) (l : List UInt8) : Int × List UInt8 × Int := (unzig (rNum e l).1, (rNum e l).2.1, (rNum e l).2.2)

def c1 (p : List UInt8) := stN 1 9223372036854775807 ⟨false, 0, p⟩
def c2 (p : List UInt8) := stN 1 9223372036854775807 (c1 p).2
def c3 (p : List UInt8) := stT (c2 p).2
def c4 (p : List UInt8) := stN 0 2147483647 (c3 p).2
def c5 (p : List UInt8) := stN 0 3 (c4 p).2
def c6 (p : List UInt8) := stN 1 4 (c5 p).2
def c7 (p : List UInt8) := stI (c6 p).2
def c8 (p : List UInt8) := stT (c7 p).2

def d1 (p : List UInt8) := rfN 1 9223372036854775807 0 p
def d2 (p : List UInt8) := rfN 1 9223372036854775807 (d1 p).2.2 (d1 p).2.1
def d3 (p : List UInt8) := rText 40 (d2 p).2.2 (d2 p).2.1
def d4 (p : List UInt8) := rfN 0 2147483647 (d3 p).2.2 (d3 p).2.1
def d5 (p : List UInt8) := rfN 0 3 (d4 p).2.2 (d4 p).2.1
def d6 (p : List UInt8) := rfN 1 4 (d5 p).2.2 (d5 p).2.1
def d7 (p : List UInt8) := rfI (d6 p).2.2 (d6 p).2.1
def d8 (p : List UInt8) := rText 40 (d7 p).2.2 (d7 p).2.1

def evOf (a b : Nat) (o : List UInt8) (c d k : Nat) (y : Int) (t : List UInt8) : Ev :=
  ⟨wrap64 a, wrap64 b, strL o, wrap64 c, wrap64 d, (k : Int) % 256, y, strL t⟩

def cErr (p : List UInt8) : Int := if (c8 p).2.bad = true then 2 else rEnd (c8 p).2.e (c8 p).2.l
def cEv (p : List UInt8) : Ev := if cErr p = 0 then evOf (c1 p).1 (c2 p).1 (c3 p).1 (c4 p).1 (c5 p).1 (c6 p).1 (c7 p).1 (c8 p).1 else Ev.zero
def dErr (p : List UInt8) : Int := rEnd (d8 p).2.2 (d8 p).2.1
def dEv (p : List UInt8) : Ev := if dErr p = 0 then evOf (d1 p).1 (d2 p).1 (d3 p).1 (d4 p).1 (d5 p).1 (d6 p).1 (d7 p).1 (d8 p).1 else Ev.zero

def Like (s : Sd) (e : Int) (l : List UInt8) : Prop := (s.bad = false → s.e = e ∧ s.l = l) ∧ (s.bad = true → e = 2)

theorem rNum_err {e : Int} (h : e ≠ 0) (l : List UInt8) : rNum e l = (0, l, e) := by rw [rNum, if_neg h]
theorem rText_err {e : Int} (h : e ≠ 0) (m : Int) (l : List UInt8) : rText m e l = ([], l, e) := by rw [rText, rNum_err h, rTextOf, if_neg h]

theorem like_N {s : Sd} {e : Int} {l : List UInt8} (h : Like s e l) (lo hi : Nat) :
    Like (stN lo hi s).2 (rfN lo hi e l).2.2 (rfN lo hi e l).2.1 ∧ ((stN lo hi s).2.bad = false → s.bad = false ∧ (stN lo hi s).1 = (rfN lo hi e l).1) := by
  cases hb : s.bad with
  | false =>
    obtain ⟨rfl, rfl⟩ := h.1 hb
    unfold stN rfN Like
    rw [hb]
    simp only [Bool.false_or]
    cases hx : badN lo hi (rNum s.e s.l).2.2 (rNum s.e s.l).1 <;> simp
  | true =>
    obtain rfl := h.2 hb
    unfold stN rfN Like
    rw [hb, rNum_err (by decide) l]
    simp [badN]

theorem like_T {s : Sd} {e : Int} {l : List UInt8} (h : Like s e l) :
    Like (stT s).2 (rText 40 e l).2.2 (rText 40 e l).2.1 ∧ ((stT s).2.bad = false → s.bad = false ∧ (stT s).1 = (rText 40 e l).1) := by
  cases hb : s.bad with
  | false =>
    obtain ⟨rfl, rfl⟩ := h.1 hb
    unfold stT Like
    rw [hb]
    simp
  | true =>
    obtain rfl := h.2 hb
    unfold stT Like
    rw [hb, rText_err (by decide) 40 l]
    simp

theorem like_I {s : Sd} {e : Int} {l : List UInt8} (h : Like s e l) :
    Like (stI s).2 (rfI e l).2.2 (rfI e l).2.1 ∧ ((stI s).2.bad = false → s.bad = false ∧ (stI s).1 = (rfI e l).1) := by
  cases hb : s.bad with
  | false =>
    obtain ⟨rfl, rfl⟩ := h.1 hb
    unfold stI rfI Like
    rw [hb]
    simp
  | true =>
    obtain rfl := h.2 hb
    unfold stI rfI Like
    rw [hb, rNum_err (by decide) l]
    simp

theorem dec_same (p : List UInt8) : cErr p = dErr p ∧ cEv p = dEv p := by
  have l0 : Like ⟨false, 0, p⟩ 0 p := ⟨fun _ => ⟨rfl, rfl⟩, fun h => by simp at h⟩
  obtain ⟨l1, v1⟩ := like_N l0 1 9223372036854775807
  obtain ⟨l2, v2⟩ := like_N l1 1 9223372036854775807
  obtain ⟨l3, v3⟩ := like_T l2
  obtain ⟨l4, v4⟩ := like_N l3 0 2147483647
  obtain ⟨l5, v5⟩ := like_N l4 0 3
  obtain ⟨l6, v6⟩ := like_N l5 1 4
  obtain ⟨l7, v7⟩ := like_I l6
  obtain ⟨l8, v8⟩ := like_T l7
  change Like (c8 p).2 (d8 p).2.2 (d8 p).2.1 at l8
  have herr : cErr p = dErr p := by
    unfold cErr dErr
    cases hb : (c8 p).2.bad with
    | false =>
      obtain ⟨h1, h2⟩ := l8.1 hb
      rw [h1, h2]
      simp
    | true =>
      rw [l8.2 hb]
      simp [rEnd]
  refine ⟨herr, ?_⟩
  unfold cEv dEv
  rw [← herr]
  by_cases h0 : cErr p = 0
  · rw [if_pos h0, if_pos h0]
    have b8 : (c8 p).2.bad = false := by
      cases hb : (c8 p).2.bad with
      | false => rfl
      | true => rw [cErr, if_pos hb] at h0; simp at h0
    obtain ⟨b7, e8⟩ := v8 b8
    obtain ⟨b6, e7⟩ := v7 b7
    obtain ⟨b5, e6⟩ := v6 b6
    obtain ⟨b4, e5⟩ := v5 b5
    obtain ⟨b3, e4⟩ := v4 b4
    obtain ⟨b2, e3⟩ := v3 b3
    obtain ⟨b1, e2⟩ := v2 b2
    obtain ⟨_, e1⟩ := v1 b1
    change (c1 p).1 = (d1 p).1 at e1
    change (c2 p).1 = (d2 p).1 at e2
    change (c3 p).1 = (d3 p).1 at e3
    change (c4 p).1 = (d4 p).1 at e4
    change (c5 p).1 = (d5 p).1 at e5
    change (c6 p).1 = (d6 p).1 at e6
    change (c7 p).1 = (d7 p).1 at e7
    change (c8 p).1 = (d8 p).1 at e8
    rw [e1, e2, e3, e4, e5, e6, e7, e8]
  · rw [if_neg h0, if_neg h0]

theorem rn_form (l : List UInt8) : ∀ (i acc x s : Nat), rn i acc l = (x, s, 0) → i ≤ 9 → ∃ n, x = acc + n * 128 ^ i ∧ (0 < i → 0 < n) ∧ i < s ∧ l = numL n ++ l.drop (s - i) := by
  induction l with
  | nil => intro i acc x s h; simp [rn] at h
  | cons b t ih =>
    intro i acc x s h hi
    rw [rn] at h
    by_cases h1 : (i = 9 ∧ 1 < b.toNat) ∨ (0 < i ∧ b.toNat = 0)
    · rw [if_pos h1] at h; simp at h
    · rw [if_neg h1] at h
      by_cases h2 : b.toNat < 128
      · rw [if_pos h2] at h
        simp only [Prod.mk.injEq] at h
        obtain ⟨rfl, rfl, _⟩ := h
        refine ⟨b.toNat, rfl, by omega, by omega, ?_⟩
        rw [numL_small h2, show i + 1 - i = 1 from by omega]
        simp
      · rw [if_neg h2] at h
        have hi9 : i ≠ 9 := by intro h9; exact h1 (.inl ⟨h9, by omega⟩)
        obtain ⟨n, rfl, hn, hs, ht⟩ := ih (i + 1) _ x s h (by omega)
        have hn0 := hn (by omega)
        have hb := UInt8.toNat_lt b
        refine ⟨n * 128 + (b.toNat - 128), ?_, by omega, by omega, ?_⟩
        · rw [Nat.pow_succ, Nat.add_mul, Nat.mul_comm (128 ^ i) 128, ← Nat.mul_assoc]
          omega
        · rw [numL_great (by omega), show (n * 128 + (b.toNat - 128)) / 128 = n from by omega, show (n * 128 + (b.toNat - 128)) % 128 + 128 = b.toNat from by omega]
          obtain ⟨k, hk⟩ : ∃ k, s - i = k + 1 := ⟨s - i - 1, by omega⟩
          rw [hk, List.drop_succ_cons, show k = s - (i + 1) from by omega]
          simp only [UInt8.ofNat_toNat, List.cons_append]
          rw [← ht]

theorem rdN_form (l : List UInt8) (h : (rdN l).2.2 = 0) : l = numL (rdN l).1 ++ l.drop (rdN l).2.1 := by
  obtain ⟨n, h1, _, _, h4⟩ := rn_form l 0 0 (rdN l).1 (rdN l).2.1 (by rw [← h]; rfl) (by omega)
  rw [h1]
  simpa using h4

theorem rNum_ok {e : Int} {l : List UInt8} (h : (rNum e l).2.2 = 0) : e = 0 ∧ l = numL (rNum e l).1 ++ (rNum e l).2.1 ∧ (rNum e l).1 < 18446744073709551616 := by
  by_cases he : e = 0
  · subst he
    by_cases h1 : (rdN l).2.2 = 0
    · have hr : rNum 0 l = ((rdN l).1, l.drop (rdN l).2.1, 0) := by rw [rNum, if_pos rfl, if_pos h1]
      rw [hr]
      exact ⟨rfl, rdN_form l h1, (rdN_ok l h1).2.2⟩
    · rw [rNum, if_pos rfl, if_neg h1] at h
      exact absurd h h1
  · rw [rNum_err he] at h
    exact absurd h he

theorem badN_no {lo hi : Nat} {n : Nat} (h : badN lo hi 0 n = false) : lo ≤ n ∧ n ≤ hi := by
  unfold badN at h
  simp at h
  omega

theorem rfN_ok {lo hi : Nat} {e : Int} {l : List UInt8} (h : (rfN lo hi e l).2.2 = 0) : e = 0 ∧ l = numL (rfN lo hi e l).1 ++ (rfN lo hi e l).2.1 ∧ lo ≤ (rfN lo hi e l).1 ∧ (rfN lo hi e l).1 ≤ hi := by
  unfold rfN at h ⊢
  cases hb : badN lo hi (rNum e l).2.2 (rNum e l).1 with
  | true => rw [hb] at h; simp at h
  | false =>
    rw [hb] at h
    simp only [Bool.false_eq_true, if_false] at h ⊢
    obtain ⟨h1, h2, h3⟩ := rNum_ok h
    rw [h] at hb
    exact ⟨h1, h2, badN_no hb⟩

theorem strL_size (l : List UInt8) : (strL l).size = l.length := rfl

theorem wrap64_id {n : Nat} (h : n ≤ 9223372036854775807) : wrap64 (n : Int) = n := by unfold wrap64; omega

theorem rfN_back {lo hi n : Nat} (t : List UInt8) (h1 : lo ≤ n) (h2 : n ≤ hi) (h3 : n < 18446744073709551616) : rfN lo hi 0 (numL n ++ t) = (n, t, 0) := by
  unfold rfN
  rw [rNum_back n t h3, if_neg]
  simp [badN]
  omega

theorem strL_self' (s : ByteArray) : strL s.data.toList = s := by
  cases s
  simp [strL]

theorem dec_back {e : Ev} (h : e.Right) (o : e.Ok) : dErr e.encL = 0 ∧ dEv e.encL = e := by
  have k1 := h.id; have k2 := h.tx; have k3 := h.tr; have k4 := h.tb; have k5 := h.kd
  have o1 := o.id; have o2 := o.tx; have o3 := o.key
  have g1 := h.ow; have g2 := h.t
  have x1 : d1 e.encL = (e.id.toNat, e.r2, 0) := rfN_back _ (by omega) (by omega) (by omega)
  have x2 : d2 e.encL = (e.tx.toNat, e.r3, 0) := by rw [d2, x1]; exact rfN_back _ (by omega) (by omega) (by omega)
  have x3 : d3 e.encL = (e.ow.data.toList, e.r4, 0) := by rw [d3, x2]; exact rText_back 40 _ _ (by rw [size_list]; omega) (by rw [size_list]; omega)
  have x4 : d4 e.encL = (e.tr.toNat, e.r5, 0) := by rw [d4, x3]; exact rfN_back _ (by omega) (by omega) (by omega)
  have x5 : d5 e.encL = (e.tb.toNat, e.r6, 0) := by rw [d5, x4]; exact rfN_back _ (by omega) (by omega) (by omega)
  have x6 : d6 e.encL = (e.kd.toNat, e.r7, 0) := by rw [d6, x5]; exact rfN_back _ (by omega) (by omega) (by omega)
  have x7 : d7 e.encL = (e.key, e.r8, 0) := by
    rw [d7, x6]
    show rfI 0 (intL e.key ++ e.r8) = _
    rw [rfI, intL, rNum_back _ _ (Lib.zigzag_lt o3.1 o3.2), unzig_zigzag]
  have x8 : d8 e.encL = (e.t.data.toList, [], 0) := by
    rw [d8, x7]
    have := rText_back 40 e.t.data.toList [] (by rw [size_list]; omega) (by rw [size_list]; omega)
    rw [List.append_nil] at this
    exact this
  have hE : dErr e.encL = 0 := by rw [dErr, x8]; rfl
  refine ⟨hE, ?_⟩
  rw [dEv, if_pos hE, x1, x2, x3, x4, x5, x6, x7, x8, evOf, strL_self', strL_self', wrap64_id (by omega), wrap64_id (by omega), wrap64_id (by omega), wrap64_id (by omega)]
  rw [show ((e.id.toNat : Nat) : Int) = e.id from by omega, show ((e.tx.toNat : Nat) : Int) = e.tx from by omega, show ((e.tr.toNat : Nat) : Int) = e.tr from by omega, show ((e.tb.toNat : Nat) : Int) = e.tb from by omega, show ((e.kd.toNat : Nat) : Int) % 256 = e.kd from by omega]

end Go.Proofs.Ytjdbmlifekghfaa
