/-
  The contract of carrierref05.Of: a snapshot that is right, by numbers.
-/
import Derived.Test.YtojkandkhhjaaaaSnH
namespace Go.Proofs.Ytojkandkhhjaaaa
open Go.RowKit

theorem Try.infoI : (Try.prog.info? 2).map (fun i => (i.zero, i.size, i.bytes)) = some (some (.int .i64 0), 1, 8) := by kernel_rfl

/-- int64s as cells. -/
def ic (l : List Int) : List Value := l.map fun n => Value.int .i64 n
theorem ic_get (l : List Int) (j : Nat) (h : j < l.length) : (ic l)[j]? = some (.int .i64 (l.getD j 0)) := by
  simp [ic, List.getD, h]

/-- A snapshot at block p, its list a slice of the call's own. -/
structure Sd (w : World) (B p : Nat) (M : Int) (v : Value) (l : List Int) : Prop where
  hp : w.heap[p]? = some (.cells #[.int .i64 M, v] 31 (0, 0))
  hv : w.ownsRow B 2 1 v l.length (ic l)
  bp : B ≤ p

theorem owns_frame {w w' : World} {base e size n B : Nat} {ts : List TypeId} {v : Value} {xs : List Value} (h : w.ownsRow base e size v n xs) (hf : Fr B ts w w') (he : e ∉ ts) : w'.ownsRow base e size v n xs := by
  refine ⟨h.1, ?_⟩
  rcases h.2 with h2 | ⟨g, cap, cur, rfl, hbg, hg, r⟩
  · exact .inl h2
  · exact .inr ⟨g, cap, cur, rfl, hbg, hf.heap hg he, r⟩

theorem Sd.keep {w w' : World} {B p : Nat} {M : Int} {v : Value} {l : List Int} (h : Sd w B p M v l) (k : Kept w w' []) : Sd w' B p M v l :=
  { h with hp := (Fr.ofKept k 0 []).heap h.hp (by simp), hv := owns_frame h.hv (Fr.ofKept k 0 []) (by simp) }

theorem owns_rdI {w : World} {B : Nat} {v : Value} {l : List Int} (h : w.ownsRow B 2 1 v l.length (ic l)) : RdI w v l := by
  rcases h.2 with ⟨rfl, hn⟩ | ⟨g, cap, cur, rfl, hb, hg, hnc, hcm, hcs, ht⟩
  · have : l = [] := List.eq_nil_of_length_eq_zero hn
    subst this
    exact RdI.nil w
  · refine ⟨some ⟨g, 0, none⟩, cap, rfl, hnc, hcm, by simp, fun _ => ⟨g, 0, rfl, fun i hi => ?_⟩⟩
    have := World.ownsRow.cells h (g := g) rfl i _ (ic_get l i hi)
    simpa [Addr.add_lit] using this

theorem Sd.cells {w : World} {B p : Nat} {M : Int} {v : Value} {l : List Int} (h : Sd w B p M v l) : w.cell? ⟨p, 0, none⟩ = some (.int .i64 M) ∧ w.cell? ⟨p, 1, none⟩ = some v := two_cells h.hp

theorem Sd.frozen {w : World} {B p : Nat} {M : Int} {v : Value} {l : List Int} (h : Sd w B p M v l) (j : Nat) : w.frozen? ⟨p, j, none⟩ = false := frozen_of_row _ _ _ _ _ h.hp

/-- The list is laid anew. -/
theorem Sd.put {w w' : World} {B p : Nat} {M : Int} {v v' : Value} {l l' : List Int} (h : Sd w B p M v l) (hf : Fr B [2] w w') (ho : w'.ownsRow B 2 1 v' l'.length (ic l')) :
    Sd (w'.setCell ⟨p, 1, none⟩ v') B p M v' l' ∧ Fr B [2, 31] w (w'.setCell ⟨p, 1, none⟩ v') := by
  have hp := hf.heap h.hp (by decide)
  have h2 : (w'.setCell ⟨p, 1, none⟩ v').heap[p]? = some (.cells #[.int .i64 M, v'] 31 (0, 0)) := by simpa using heap_setCell_at hp 1 v'
  have f2 : Fr B [31] w' (w'.setCell ⟨p, 1, none⟩ v') := (Fr.refl B _ w').setCell hp (.inr ⟨h.bp, by simp⟩) 1 v'
  exact ⟨{ h with hp := h2, hv := owns_frame ho f2 (by decide) }, (hf.mono (Nat.le_refl _) (by simp)).trans (f2.mono (Nat.le_refl _) (by simp))⟩

theorem upB_snoc {x : Int} : ∀ {l : List Int} {b : Int}, upB (x + 1) b l = true → x ∉ l → b < x → upB (x + 1) b (l ++ [x]) = true := by
  intro l
  induction l with
  | nil => intro b _ _ hb; simp [upB, hb]; omega
  | cons y r ih =>
    intro b h hx hb
    simp only [upB, Bool.and_eq_true, decide_eq_true_eq] at h
    simp only [List.mem_cons, not_or] at hx
    rw [List.cons_append]
    simp only [upB, Bool.and_eq_true, decide_eq_true_eq]
    exact ⟨h.1, h.2.1, ih h.2.2 hx.2 (by omega)⟩

theorem upB_up {x y : Int} (hxy : x ≤ y) : ∀ {l : List Int} {b : Int}, upB x b l = true → upB y b l = true := by
  intro l
  induction l with
  | nil => intro b _; rfl
  | cons z r ih =>
    intro b h
    simp only [upB, Bool.and_eq_true, decide_eq_true_eq] at h ⊢
    exact ⟨h.1, by omega, ih h.2.2⟩

theorem retagg {M : Int} {v : Value} : Ending.returned (.agg #[.int .i64 M, v]) = .returned (.agg #[.int .i64 M, v]) := rfl

set_option maxHeartbeats 2000000 in
set_option maxRecDepth 100000 in
theorem of_any (a : Nat) (vo : Value) (bs : List UInt8) (w : World) (ho : Rd w vo bs) (hb : bs.length ≤ 1000) :
    Calls Try.prog 11 #[.int .u8 a, vo] w fun e w' => ∃ (M : Int) (v : Value) (l : List Int), e = .returned (.agg #[.int .i64 M, v]) ∧ M = 1 + (a : Int) % 40 ∧ rightB M l = true ∧ (bs = [] → l = []) ∧ RdI w' v l ∧ Kept w w' [] := by
  obtain ⟨i0, hi, hz0, hz1, hz2⟩ := info_parts Try.infoI
  obtain ⟨t, ht⟩ : ∃ t : Nat, (a : Int) % 40 = (t : Int) := ⟨a % 40, by omega⟩
  have ht40 : t < 40 := by omega
  have Ho0 := Lib.hid ho
  obtain ⟨oa, oc, rfl, hoc, _, _⟩ := ho
  have Ht := Lib.hid ht
  obtain ⟨W, hW⟩ : ∃ W, W = (w.alloc (.cells #[.int .i64 0, .slice none 0 0] 31)).alloc (.cells #[.int .i64 (1 + (t : Int)), .slice none 0 0] 31) := ⟨_, rfl⟩
  have hz : (w.alloc (.cells #[.int .i64 0, .slice none 0 0] 31)).heap.size = w.heap.size + 1 := by simp
  have hzW : W.heap.size = w.heap.size + 2 := by rw [hW]; simp
  have hq : W.heap[w.heap.size]? = some (.cells #[.int .i64 0, .slice none 0 0] 31 (0, 0)) := by rw [hW]; exact (Below.heap_alloc _ _ _ (by simp)).trans (heap_alloc_new w _)
  have sd : Sd W (w.heap.size + 1) (w.heap.size + 1) (1 + (t : Int)) (.slice none 0 0) [] :=
    { hp := by rw [hW, ← hz]; exact heap_alloc_new _ _, hv := World.ownsRow_nil _ _ _ _, bp := Nat.le_refl _ }
  have K0 : Hid (Kept w W []) := Lib.hid (by rw [hW]; exact ((Kept.refl w []).alloc _).alloc _)
  have Hq := Lib.hid hq; have D0 := Lib.hid sd
  clear hq sd hz
  go_enter Try.func11, Try.ntmps11
  go_wp2
  rw [← hW]
  clear hW ht
  go_loopw [6] (fun t6 wr => ∃ (x : Int) (v : Value) (l : List Int), t6 = .int .i64 x ∧ 1 ≤ x ∧ x ≤ 1 + (t : Int) ∧ Sd wr (w.heap.size + 1) (w.heap.size + 1) (1 + (t : Int)) v l ∧ upB x 0 l = true ∧ (bs = [] → l = []) ∧ Fr (w.heap.size + 1) [2, 31] W wr) (fun t6 _ => 41 - (intOf t6).toNat)
  case atStart => exact ⟨1, _, [], rfl, by omega, by omega, D0.out, rfl, fun _ => rfl, Fr.refl _ _ _⟩
  case round =>
    obtain ⟨x, v, l, rfl, hx1, hx2, hd, hu, hn, hf⟩ := hrel
    have D := Lib.hid hd; have U := Lib.hid hu; have N := Lib.hid hn; have F := Lib.hid hf
    clear hd hu hn hf
    obtain ⟨z0, z1⟩ := D.out.cells
    have hzr := F.out.size
    by_cases hlt : x < 1 + (t : Int)
    · go_wp2
      go_loopw [7] (fun t7 wr2 => ∃ (i : Nat) (v : Value) (l : List Int), t7 = .int .i64 i ∧ i ≤ bs.length ∧ Sd wr2 (w.heap.size + 1) (w.heap.size + 1) (1 + (t : Int)) v l ∧ upB (x + 1) 0 l = true ∧ (bs = [] → l = []) ∧ Fr (w.heap.size + 1) [2, 31] W wr2) (fun t7 _ => bs.length - (intOf t7).toNat)
      case atStart => exact ⟨0, _, _, rfl, Nat.zero_le _, D.out, upB_up (by omega) U.out, N.out, F.out⟩
      case round =>
        clear D U N F z0 z1 hzr l v
        rename_i wr0
        obtain ⟨i, v, l, rfl, hi2, hd, hu, hn, hf⟩ := hrel
        have D := Lib.hid hd; have U := Lib.hid hu; have N := Lib.hid hn; have F := Lib.hid hf
        clear hd hu hn hf
        obtain ⟨z0, z1⟩ := D.out.cells
        have hzr := F.out.size
        have hl := upB_len U.out (by omega)
        by_cases hil : i < bs.length
        · obtain ⟨a', c', e1, _, _, hla⟩ := Ho0.out
          simp only [Value.slice.injEq, true_and] at e1
          obtain ⟨rfl, rfl⟩ := e1
          obtain ⟨ob, oo, rfl, hcell⟩ := hla (by rintro rfl; simp at hil)
          have KW : Kept w wr [] := ((Fr.ofKept K0.out 0 []).later F.out (by omega)).kept
          have c1 := KW.cell (p := ⟨ob, oo + i, none⟩) (by simp) (hcell i hil)
          obtain ⟨b, hb8⟩ : ∃ b : UInt8, b = bs.getD i 0 := ⟨_, rfl⟩
          rw [← hb8] at c1
          have hbne : bs ≠ [] := by rintro rfl; simp at hil
          obtain ⟨y, hy⟩ : ∃ y : Nat, (b.toNat : Int) % 40 = (y : Int) := ⟨b.toNat % 40, by omega⟩
          have hy40 : y < 40 := by omega
          have x1 : (i : Int) < (bs.length : Int) := by omega
          have R := Lib.hid (owns_rdI D.out.hv)
          obtain ⟨av, cv, hvs, _⟩ := id R.out
          subst hvs
          clear hb8 hla hcell KW
          by_cases hyx : (y : Int) = x
          · have e1 : ((y : Int) == x) = true := by simpa using hyx
            by_cases hm : x ∈ l
            · have d1 : decide (x ∈ l) = true := decide_eq_true hm
              clear hm hyx
              go_wp2_with fail
              refine (has_any _ l x _ R.out).mono ?_
              rintro e w1 ⟨rfl, rfl⟩
              clear hy
              go_wp2
              go_roundw
              case rel => exact ⟨i + 1, _, l, by go_num, by omega, D.out, U.out, N.out, F.out⟩
              case measure => simp [intOf]; omega
            · have d1 : decide (x ∈ l) = false := decide_eq_false hm
              have U2 := Lib.hid (upB_snoc U.out hm (by omega))
              clear hm hyx
              go_wp2_with fail
              refine (has_any _ l x _ R.out).mono ?_
              rintro e w1 ⟨rfl, rfl⟩
              clear hy
              go_wp2_with (at_builtin; refine wpList_append_fr _ rfl (.tmp 41) (.tmp 43) 29 29 rfl (w.heap.size + 1) 2 i0 (.int .i64 0) 1 8 Try.underlying29 hi hz0 hz1 hz2 rfl _ l.length (ic l) rfl ?hown _ 1 [.int .i64 x] rfl (src_one Try.underlying29 wr _ rfl _) ?b1 ?b2 ?base ?next)
              case hown => exact (D.out.keep ((Kept.refl wr []).alloc _)).hv
              case b1 => unfold maxLen; omega
              case b2 => omega
              case base => simp; omega
              case next =>
                intro v2 w2 hown hf2 _
                have ho2 : w2.ownsRow (w.heap.size + 1) 2 1 v2 (l ++ [x]).length (ic (l ++ [x])) := by rw [List.length_append, ic, List.map_append]; exact hown
                have hd1 := D.out.keep ((Kept.refl wr []).alloc (.cells #[.int .i64 x] 2))
                have hp2 := hf2.heap hd1.hp (by decide)
                have f0 : w2.frozen? ⟨w.heap.size + 1, 1, none⟩ = false := frozen_of_row _ _ _ _ _ hp2
                obtain ⟨y0, y1⟩ := two_cells hp2
                obtain ⟨hd3, hf3⟩ := hd1.put hf2 ho2
                have D3 := Lib.hid hd3; have F3 := Lib.hid ((F.out.alloc (.cells #[.int .i64 x] 2)).trans hf3)
                obtain ⟨a2, c2, hv2, _⟩ := owns_rdI ho2
                clear hown hf2 ho2 hd1 hp2 hd3 hf3
                subst hv2
                have e9 : (l ++ [x]).length = l.length + 1 := by simp
                rw [e9] at D3 F3
                clear e9
                go_wp2
                go_roundw
                case rel => exact ⟨i + 1, _, l ++ [x], by go_num, by omega, D3.out, U2.out, fun h => absurd h hbne, F3.out⟩
                case measure => simp [intOf]; omega
          · have e1 : ((y : Int) == x) = false := by simpa using hyx
            clear hyx
            go_wp2
            go_roundw
            case rel => exact ⟨i + 1, _, l, by go_num, by omega, D.out, U.out, N.out, F.out⟩
            case measure => simp [intOf]; omega
        · have x1 : ¬ (i : Int) < (bs.length : Int) := by omega
          go_wp2
          go_roundw
          case rel => exact ⟨x + 1, _, l, by go_num, by omega, by omega, D.out, U.out, N.out, F.out⟩
          case measure => simp [intOf]; omega
    · obtain rfl : x = 1 + (t : Int) := by omega
      have q0 := F.out.heapLt Hq.out (by omega)
      have f0 : wr.frozen? ⟨w.heap.size, 0, none⟩ = false := frozen_of_row _ _ _ _ _ q0
      have f1 : wr.frozen? ⟨w.heap.size, 1, none⟩ = false := frozen_of_row _ _ _ _ _ q0
      obtain ⟨y0, y1⟩ := two_cells q0
      have R := Lib.hid (owns_rdI D.out.hv)
      obtain ⟨av, cv, hvs, _⟩ := id R.out
      subst hvs
      have g1 := heap_setCell_at q0 0 (.int .i64 (1 + (t : Int)))
      have g2 := heap_setCell_at g1 1 (.slice av l.length cv)
      obtain ⟨n0, n1⟩ := two_cells (M := 1 + (t : Int)) (v := .slice av l.length cv) (by simpa using g2)
      have KW : Kept w wr [] := ((Fr.ofKept K0.out 0 []).later F.out (by omega)).kept
      have KF := Lib.hid ((KW.setCell (p := ⟨w.heap.size, 0, none⟩) (.inr (Nat.le_refl _)) (.int .i64 (1 + (t : Int)))).setCell (p := ⟨w.heap.size, 1, none⟩) (.inr (Nat.le_refl _)) (.slice av l.length cv))
      have RF := Lib.hid (R.out.kept (bs := [w.heap.size]) (((Kept.refl wr [w.heap.size]).setCell (p := ⟨w.heap.size, 0, none⟩) (.inl (by simp)) (.int .i64 (1 + (t : Int)))).setCell (p := ⟨w.heap.size, 1, none⟩) (.inl (by simp)) (.slice av l.length cv)) (by
        intro b hb
        have := (World.ownsRow.lt D.out.hv b hb).1
        simp; omega))
      have G := Lib.hid (show rightB (1 + (t : Int)) l = true by simp only [rightB, Bool.and_eq_true, decide_eq_true_eq]; exact ⟨by omega, U.out⟩)
      clear g1 g2 q0 KW
      go_wp2
      refine bodyPost_ret (v := .agg #[.int .i64 (1 + (t : Int)), .slice av l.length cv]) (by simp [results, Try.results11, go_sem, n0, n1]) rfl ?_
      first
        | exact ⟨_, _, rfl, by rw [Ht.out], l, G.out, N.out, RF.out, KF.out⟩
        | exact ⟨_, _, l, rfl, by rw [Ht.out], G.out, N.out, RF.out, KF.out⟩

end Go.Proofs.Ytojkandkhhjaaaa
