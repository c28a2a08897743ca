/-
  Ka, Enk, Enb, Esa, Enc in one text.
-/
import Derived.Test.YtjdbmlifekghfaaEt8
import Derived.Test.YtjdbmlifekghfaaEt0
import Derived.Deep.QuietTactic
import Derived.BigQuiet
import Derived.RegionTactic
import Derived.Test.YtjdbmlifekghfaaEt3
import Derived.Test.YtjdbmlifekghfaaEt7
import Derived.ProofKit
import Derived.OpenShut
import Derived.ShutString
import Derived.ChangeOld
import Derived.Below
import Derived.Deep.Fields
set_option linter.unusedVariables false
set_option maxHeartbeats 16000000
set_option maxRecDepth 100000
namespace Go.Proofs.Ytjdbmlifekghfaa
open Go.RowKit
def RdT (w : World) (v : Value) (l : List Int) : Prop := RdI w v l /\ ∀ b, v.ownBlock = some b -> ∃ cs, w.heap[b]? = some (.cells cs 2 (0, 0))
theorem RdI.fo {w w' : World} {v : Value} {l : List Int} {O : Nat -> Prop} (h : RdI w v l) (hf : Fo O w w') (hO : ∀ b, v.ownBlock = some b -> ¬ O b) : RdI w' v l := by
 obtain ⟨a, c, rfl, hc, hm, ha, hl⟩ := h
 refine ⟨a, c, rfl, hc, hm, ha, fun hne => ?_⟩
 obtain ⟨b, o, rfl, hcell⟩ := hl hne
 refine ⟨b, o, rfl, fun i hi => ?_⟩
 have h1 := hcell i hi
 have same : w'.heap[b]? = w.heap[b]? := hf.block b (World.block_lt_of_cell? w _ h1) (hO b rfl)
 rw [World.cell?_of_block (w := w) same]
 exact h1
theorem RdT.off {w w' : World} {v : Value} {l : List Int} {O : Nat -> Prop} (h : RdT w v l) (hf : Fo O w w') (hn : ∀ b, v.ownBlock = some b -> ¬ O b) : RdT w' v l := by
 refine ⟨h.1.fo hf hn, fun b hb => ?_⟩
 obtain ⟨cs, hg⟩ := h.2 b hb
 exact ⟨cs, hf.heap (hn b hb) hg⟩
theorem RdT.nil (w : World) : RdT w (.slice none 0 0) [] := ⟨RdI.nil w, fun b hb => by simp [Value.ownBlock] at hb⟩
def ic (l : List Int) : List Value := l.map fun n => Value.int .i64 n
theorem ic_get (l : List Int) (j : Nat) (h : j < l.length) : (ic l)[j]? = some (.int .i64 (l.getD j 0)) := by
 simp [ic, List.getD, h]
theorem owns_rdT {w : World} {B : Nat} {v : Value} {l : List Int} (h : w.ownsRow B 2 1 v l.length (ic l)) : RdT w v l := by
 rcases h.2 with ⟨rfl, hn⟩ | ⟨g, cap, cur, rfl, hb, hg, hnc, hcm, hcs, ht⟩
 ·have : l = [] := List.eq_nil_of_length_eq_zero hn
  subst this
  exact RdT.nil w
 refine ⟨⟨some ⟨g, 0, none⟩, cap, rfl, hnc, hcm, by simp, fun _ => ⟨g, 0, rfl, fun i hi => ?_⟩⟩, fun b hb => ?_⟩
 ·have := World.ownsRow.cells h (g := g) rfl i _ (ic_get l i hi)
  simpa [Addr.add_lit] using this
 simp only [Value.ownBlock, Option.some.injEq] at hb
 subst hb
 exact ⟨cur, hg⟩
theorem Try.infoI : (Try.prog.info? 2).map (fun i => (i.zero, i.size, i.bytes)) = some (some (.int .i64 0), 1, 8) := by kernel_rfl
theorem tw_cells {w : World} {p : Nat} {M : Int} {v : Value} {t : TypeId} {fz : Nat × Nat} (h : w.heap[p]? = some (.cells #[.int .i64 M, v] t fz)) : w.cell? ⟨p, 0, none⟩ = some (.int .i64 M) /\ w.cell? ⟨p, 1, none⟩ = some v :=
 ⟨by simpa using cell_of_row w p 0 _ _ _ h, by simpa using cell_of_row w p 1 _ _ _ h⟩
structure Skd (w : World) (B p : Nat) (M : Int) (v : Value) (l : List Int) : Prop where
 hp : w.heap[p]? = some (.cells #[.int .i64 M, v] 31 (0, 0))
 hv : w.ownsRow B 2 1 v l.length (ic l)
 bp : B <= p
theorem owns_frame {w w' : World} {base e size n B : Nat} {ts : List TypeId} {v : Value} {xs : List Value} (h : w.ownsRow base e size v n xs) (hf : Fr B ts w w') (he : e ∉ ts) : w'.ownsRow base e size v n xs := by
 refine ⟨h.1, ?_⟩
 rcases h.2 with h2 | ⟨g, cap, cur, rfl, hbg, hg, r⟩
 ·exact .inl h2
 exact .inr ⟨g, cap, cur, rfl, hbg, hf.heap hg he, r⟩
theorem Skd.keep {w w' : World} {B p : Nat} {M : Int} {v : Value} {l : List Int} (h : Skd w B p M v l) (k : Kept w w' []) : Skd w' B p M v l :=
 { h with hp := (Fr.ofKept k 0 []).heap h.hp (by simp), hv := owns_frame h.hv (Fr.ofKept k 0 []) (by simp) }
theorem xqM {w : World} {B : Nat} {v : Value} {l : List Int} (h : w.ownsRow B 2 1 v l.length (ic l)) : RdI w v l := by
 rcases h.2 with ⟨rfl, hn⟩ | ⟨g, cap, cur, rfl, hb, hg, hnc, hcm, hcs, ht⟩
 ·have : l = [] := List.eq_nil_of_length_eq_zero hn
  subst this
  exact RdI.nil w
 refine ⟨some ⟨g, 0, none⟩, cap, rfl, hnc, hcm, by simp, fun _ => ⟨g, 0, rfl, fun i hi => ?_⟩⟩
 have := World.ownsRow.cells h (g := g) rfl i _ (ic_get l i hi)
 simpa [Addr.add_lit] using this
theorem Skd.cells {w : World} {B p : Nat} {M : Int} {v : Value} {l : List Int} (h : Skd w B p M v l) : w.cell? ⟨p, 0, none⟩ = some (.int .i64 M) /\ w.cell? ⟨p, 1, none⟩ = some v := tw_cells h.hp
theorem Skd.put {w w' : World} {B p : Nat} {M : Int} {v v' : Value} {l l' : List Int} (h : Skd w B p M v l) (hf : Fr B [2] w w') (ho : w'.ownsRow B 2 1 v' l'.length (ic l')) :
  Skd (w'.setCell ⟨p, 1, none⟩ v') B p M v' l' /\ Fr B [2, 31] w (w'.setCell ⟨p, 1, none⟩ v') := by
 have hp := hf.heap h.hp (by decide)
 have h2 : (w'.setCell ⟨p, 1, none⟩ v').heap[p]? = some (.cells #[.int .i64 M, v'] 31 (0, 0)) := by simpa using xqa hp 1 v'
 have f2 : Fr B [31] w' (w'.setCell ⟨p, 1, none⟩ v') := (Fr.refl B _ w').setCell hp (.inr ⟨h.bp, by simp⟩) 1 v'
 exact ⟨{ h with hp := h2, hv := owns_frame ho f2 (by decide) }, (hf.mono (Nat.le_refl _) (by simp)).trans (f2.mono (Nat.le_refl _) (by simp))⟩
theorem upB_snoc {x : Int} : ∀ {l : List Int} {b : Int}, upB (x + 1) b l = true -> x ∉ l -> b < x -> upB (x + 1) b (l ++ [x]) = true := by
 intro l
 induction l with
 | nil => intro b _ _ hb; simp [upB, hb]; omega
 | cons y r ih =>
 intro b h hx hb
 simp only [upB, Bool.and_eq_true, decide_eq_true_eq] at h
 simp only [List.mem_cons, not_or] at hx
 rw [List.cons_append]
 simp only [upB, Bool.and_eq_true, decide_eq_true_eq]
 exact ⟨h.1, h.2.1, ih h.2.2 hx.2 (by omega)⟩
theorem upB_up {x y : Int} (hxy : x <= y) : ∀ {l : List Int} {b : Int}, upB x b l = true -> upB y b l = true := by
 intro l
 induction l with
 | nil => intro b _; rfl
 | cons z r ih =>
 intro b h
 simp only [upB, Bool.and_eq_true, decide_eq_true_eq] at h ⊢
 exact ⟨h.1, by omega, ih h.2.2⟩
theorem snof_any (a : Nat) (vo : Value) (bs : List UInt8) (w : World) (ho : Rd w vo bs) (hb : bs.length <= 1000) :
  Calls Try.prog 26 #[.int .u8 a, vo] w fun e w' => ∃ (M : Int) (v : Value) (l : List Int), e = .returned (.agg #[.int .i64 M, v]) /\ M = 1 + (a : Int) % 40 /\ rightB M l = true /\ (∃ a c, v = .slice a l.length c) /\ RdT w' v l /\ Kept w w' [] := by
 obtain ⟨i0, hi, hz0, hz1, hz2⟩ := info_parts Try.infoI
 obtain ⟨t, ht⟩ : ∃ t : Nat, (a : Int) % 40 = (t : Int) := ⟨a % 40, by omega⟩
 have ht40 : t < 40 := by omega
 have Ho0 := iH ho
 obtain ⟨oa, oc, rfl, hoc, _, _⟩ := ho
 have Ht := iH ht
 obtain ⟨W, hW⟩ : ∃ W, W = (w.alloc (.cells #[.int .i64 0, .slice none 0 0] 31)).alloc (.cells #[.int .i64 (1 + (t : Int)), .slice none 0 0] 31) := ⟨_, rfl⟩
 have hz : (w.alloc (.cells #[.int .i64 0, .slice none 0 0] 31)).heap.size = w.heap.size + 1 := by simp
 have hzW : W.heap.size = w.heap.size + 2 := by rw [hW]; simp
 have hq : W.heap[w.heap.size]? = some (.cells #[.int .i64 0, .slice none 0 0] 31 (0, 0)) := by rw [hW]; exact (Below.heap_alloc _ _ _ (by simp)).trans (heap_alloc_new w _)
 have sd : Skd W (w.heap.size + 1) (w.heap.size + 1) (1 + (t : Int)) (.slice none 0 0) [] :=
  { hp := by rw [hW, <- hz]; exact heap_alloc_new _ _, hv := World.ownsRow_nil _ _ _ _, bp := Nat.le_refl _ }
 have K0 : Hid (Kept w W []) := iH (by rw [hW]; exact ((Kept.refl w []).alloc _).alloc _)
 have Hq := iH hq; have D0 := iH sd
 clear hq sd hz
 go_enter Try.func26, Try.ntmps26
 go_wp2
 rw [<- hW]
 clear hW ht
 go_loopw [6] (fun t6 wr => ∃ (x : Int) (v : Value) (l : List Int), t6 = .int .i64 x /\ 1 <= x /\ x <= 1 + (t : Int) /\ Skd wr (w.heap.size + 1) (w.heap.size + 1) (1 + (t : Int)) v l /\ upB x 0 l = true /\ (bs = [] -> l = []) /\ Fr (w.heap.size + 1) [2, 31] W wr) (fun t6 _ => 41 - (intOf t6).toNat)
 case atStart => exact ⟨1, _, [], rfl, by omega, by omega, D0.out, rfl, fun _ => rfl, Fr.refl _ _ _⟩
 case round =>
  obtain ⟨x, v, l, rfl, hx1, hx2, hd, hu, hn, hf⟩ := hrel
  have D := iH hd; have U := iH hu; have N := iH hn; have F := iH hf
  clear hd hu hn hf
  obtain ⟨z0, z1⟩ := D.out.cells
  have hzr := F.out.size
  by_cases hlt : x < 1 + (t : Int)
  ·go_wp2
   go_loopw [7] (fun t7 wr2 => ∃ (i : Nat) (v : Value) (l : List Int), t7 = .int .i64 i /\ i <= bs.length /\ Skd wr2 (w.heap.size + 1) (w.heap.size + 1) (1 + (t : Int)) v l /\ upB (x + 1) 0 l = true /\ (bs = [] -> l = []) /\ Fr (w.heap.size + 1) [2, 31] W wr2) (fun t7 _ => bs.length - (intOf t7).toNat)
   case atStart => exact ⟨0, _, _, rfl, Nat.zero_le _, D.out, upB_up (by omega) U.out, N.out, F.out⟩
   case round =>
   clear D U N F z0 z1 hzr l v
   rename_i wr0
   obtain ⟨i, v, l, rfl, hi2, hd, hu, hn, hf⟩ := hrel
   have D := iH hd; have U := iH hu; have N := iH hn; have F := iH hf
   clear hd hu hn hf
   obtain ⟨z0, z1⟩ := D.out.cells
   have hzr := F.out.size
   have hl := upB_len U.out (by omega)
   by_cases hil : i < bs.length
   ·obtain ⟨a', c', e1, _, _, hla⟩ := Ho0.out
    simp only [Value.slice.injEq, true_and] at e1
    obtain ⟨rfl, rfl⟩ := e1
    obtain ⟨ob, oo, rfl, hcell⟩ := hla (by rintro rfl; simp at hil)
    have KW : Kept w wr [] := ((Fr.ofKept K0.out 0 []).later F.out (by omega)).kept
    have c1 := KW.cell (p := ⟨ob, oo + i, none⟩) (by simp) (hcell i hil)
    obtain ⟨b, hb8⟩ : ∃ b : UInt8, b = bs.getD i 0 := ⟨_, rfl⟩
    rw [<- hb8] at c1
    have hbne : bs ≠ [] := by rintro rfl; simp at hil
    obtain ⟨y, hy⟩ : ∃ y : Nat, (b.toNat : Int) % 40 = (y : Int) := ⟨b.toNat % 40, by omega⟩
    have hy40 : y < 40 := by omega
    have x1 : (i : Int) < (bs.length : Int) := by omega
    have R := iH (xqM D.out.hv)
    obtain ⟨av, cv, hvs, _⟩ := id R.out
    subst hvs
    clear hb8 hla hcell KW
    by_cases hyx : (y : Int) = x
    ·have e1 : ((y : Int) == x) = true := by simpa using hyx
     by_cases hm : x ∈ l
     ·have d1 : decide (x ∈ l) = true := decide_eq_true hm
      clear hm hyx
      go_wp2_with fail
      refine (has_any _ l x _ R.out).mono ?_
      rintro e w1 ⟨rfl, rfl⟩
      clear hy
      go_wp2
      go_roundw
      case rel => exact ⟨i + 1, _, l, by go_num, by omega, D.out, U.out, N.out, F.out⟩
      case measure => simp [intOf]; omega
     have d1 : decide (x ∈ l) = false := decide_eq_false hm
     have U2 := iH (upB_snoc U.out hm (by omega))
     clear hm hyx
     go_wp2_with fail
     refine (has_any _ l x _ R.out).mono ?_
     rintro e w1 ⟨rfl, rfl⟩
     clear hy
     go_wp2_with (at_builtin; refine wpList_append_fr _ rfl (.tmp 41) (.tmp 43) 23 23 rfl (w.heap.size + 1) 2 i0 (.int .i64 0) 1 8 Try.underlying23 hi hz0 hz1 hz2 rfl _ l.length (ic l) rfl ?hown _ 1 [.int .i64 x] rfl (xq9 Try.underlying23 wr _ rfl _) ?b1 ?b2 ?base ?next)
     case hown => exact (D.out.keep ((Kept.refl wr []).alloc _)).hv
     case b1 => unfold maxLen; omega
     case b2 => omega
     case base => simp; omega
     case next =>
     intro v2 w2 hown hf2 _
     have ho2 : w2.ownsRow (w.heap.size + 1) 2 1 v2 (l ++ [x]).length (ic (l ++ [x])) := by rw [List.length_append, ic, List.map_append]; exact hown
     have hd1 := D.out.keep ((Kept.refl wr []).alloc (.cells #[.int .i64 x] 2))
     have hp2 := hf2.heap hd1.hp (by decide)
     have f0 : w2.frozen? ⟨w.heap.size + 1, 1, none⟩ = false := frozen_of_row _ _ _ _ _ hp2
     obtain ⟨y0, y1⟩ := tw_cells hp2
     obtain ⟨hd3, hf3⟩ := hd1.put hf2 ho2
     have D3 := iH hd3; have F3 := iH ((F.out.alloc (.cells #[.int .i64 x] 2)).trans hf3)
     obtain ⟨a2, c2, hv2, _⟩ := xqM ho2
     clear hown hf2 ho2 hd1 hp2 hd3 hf3
     subst hv2
     have e9 : (l ++ [x]).length = l.length + 1 := by simp
     rw [e9] at D3 F3
     clear e9
     go_wp2
     go_roundw
     case rel => exact ⟨i + 1, _, l ++ [x], by go_num, by omega, D3.out, U2.out, fun h => absurd h hbne, F3.out⟩
     case measure => simp [intOf]; omega
    have e1 : ((y : Int) == x) = false := by simpa using hyx
    clear hyx
    go_wp2
    go_roundw
    case rel => exact ⟨i + 1, _, l, by go_num, by omega, D.out, U.out, N.out, F.out⟩
    case measure => simp [intOf]; omega
   have x1 : ¬ (i : Int) < (bs.length : Int) := by omega
   go_wp2
   go_roundw
   case rel => exact ⟨x + 1, _, l, by go_num, by omega, by omega, D.out, U.out, N.out, F.out⟩
   case measure => simp [intOf]; omega
  obtain rfl : x = 1 + (t : Int) := by omega
  have q0 := F.out.heapLt Hq.out (by omega)
  have f0 : wr.frozen? ⟨w.heap.size, 0, none⟩ = false := frozen_of_row _ _ _ _ _ q0
  have f1 : wr.frozen? ⟨w.heap.size, 1, none⟩ = false := frozen_of_row _ _ _ _ _ q0
  obtain ⟨y0, y1⟩ := tw_cells q0
  have R := iH (xqM D.out.hv)
  obtain ⟨av, cv, hvs, _⟩ := id R.out
  subst hvs
  have g1 := xqa q0 0 (.int .i64 (1 + (t : Int)))
  have g2 := xqa g1 1 (.slice av l.length cv)
  obtain ⟨n0, n1⟩ := tw_cells (M := 1 + (t : Int)) (v := .slice av l.length cv) (by simpa using g2)
  have KW : Kept w wr [] := ((Fr.ofKept K0.out 0 []).later F.out (by omega)).kept
  have KF := iH ((KW.setCell (p := ⟨w.heap.size, 0, none⟩) (.inr (Nat.le_refl _)) (.int .i64 (1 + (t : Int)))).setCell (p := ⟨w.heap.size, 1, none⟩) (.inr (Nat.le_refl _)) (.slice av l.length cv))
  have RF := iH ((owns_rdT D.out.hv).off ((Fo.setCell (O := fun k => k = w.heap.size) (Fo.refl _ wr) (p := ⟨w.heap.size, 0, none⟩) (.inl rfl) (.int .i64 (1 + (t : Int)))).setCell (p := ⟨w.heap.size, 1, none⟩) (.inl rfl) (.slice av l.length cv)) (by
   intro b hb e
   have := (World.ownsRow.lt D.out.hv b hb).1
   omega))
  have G := iH (show rightB (1 + (t : Int)) l = true by simp only [rightB, Bool.and_eq_true, decide_eq_true_eq]; exact ⟨by omega, U.out⟩)
  clear g1 g2 q0 KW
  go_wp2
  refine bodyPost_ret (v := .agg #[.int .i64 (1 + (t : Int)), .slice av l.length cv]) (by simp [results, Try.results26, go_sem, n0, n1]) rfl ?_
  first
   | exact ⟨_, _, rfl, by rw [Ht.out], l, G.out, ⟨_, _, rfl⟩, RF.out, KF.out⟩
   | exact ⟨_, _, l, rfl, by rw [Ht.out], G.out, ⟨_, _, rfl⟩, RF.out, KF.out⟩
def encO : Enc Ox := ⟨4, Ox.cs, fun _ => rfl, by intro x u hu; simp only [Ox.cs, List.mem_cons, List.not_mem_nil, or_false] at hu; rcases hu with rfl | rfl | rfl | rfl <;> rfl, by decide⟩
def encP : Enc Px := ⟨9, Px.cs, fun _ => rfl, by intro x u hu; simp only [Px.cs, List.mem_cons, List.not_mem_nil, or_false] at hu; rcases hu with rfl | rfl | rfl | rfl | rfl | rfl | rfl | rfl | rfl <;> rfl, by decide⟩
def En.cs (e : En) (vo ve vi : Value) : Array Value := #[.int .u8 e.k, .int .i64 e.tx, .int .i64 e.nx, .int .i64 e.id, vo, ve, .int .i64 e.tn, .int .i64 e.tm, vi, .int .i64 e.ta, .string e.nm, .int .i64 e.n, .int .i64 e.at']
structure RdN (w : World) (e : En) (vo ve vi : Value) : Prop where
 ro : RdK encO w vo e.ops
 re : RdK encP w ve e.evs
 ri : RdI w vi e.op
theorem RdN.keep {w w' : World} {e : En} {vo ve vi : Value} (h : RdN w e vo ve vi) (k : Kept w w' []) : RdN w' e vo ve vi := ⟨h.ro.keep k, h.re.keep k, h.ri.kept k (by simp)⟩
theorem RdN.nil (w : World) {e : En} (h1 : e.ops = []) (h2 : e.evs = []) (h3 : e.op = []) : RdN w e (.slice none 0 0) (.slice none 0 0) (.slice none 0 0) :=
 ⟨by rw [h1]; exact RdK.nil w, by rw [h2]; exact RdK.nil w, by rw [h3]; exact RdI.nil w⟩
def xqd (n : Int) : Int := if n < 0 then -(n + 1) else n
theorem wholeN_whole {n : Int} (h : -9223372036854775808 <= n /\ n <= 9223372036854775807) : whole (xqd n) := by
 unfold xqd whole
 split <;> omega
structure Rw where
 k : Nat
 tx : Int
 n : Int
 a : Int
 nm : ByteArray
 M : Nat
 l : List Nat
 ks : List Int
 t : ByteArray
 gs : List Nat
 ss : List Nat
structure Rw.Ok (r : Rw) : Prop where
 k : r.k < 256
 tx : -9223372036854775808 <= r.tx /\ r.tx <= 9223372036854775807
 n : -9223372036854775808 <= r.n /\ r.n <= 9223372036854775807
 a : -9223372036854775808 <= r.a /\ r.a <= 9223372036854775807
 ks : ∀ x ∈ r.ks, -9223372036854775808 <= x /\ x <= 9223372036854775807
 gs : ∀ x ∈ r.gs, x < 256
 ss : ∀ x ∈ r.ss, x < 256
 nk : r.ks.length <= 12
 ns : r.ss.length <= 6
def goneAt (gs : List Nat) (i : Nat) : Bool := decide (i < gs.length) && decide (gs.getD i 0 % 2 = 0)
def rawOp (r : Rw) (i : Nat) : Ox := ⟨r.ks.getD i 0 % 256, goneAt r.gs i, r.ks.getD i 0, cutS r.t⟩
def rawOps (r : Rw) (n : Nat) : List Ox := (List.range n).map (rawOp r)
def rawPl (r : Rw) (i : Nat) : Px := ⟨((r.ss.getD i 0 : Nat) : Int), ofE ((i : Int) + 1) r.tx r.nm i ((r.ss.getD i 0 : Nat) : Int) ((r.k : Nat) : Int) r.a r.t⟩
def rawEvs (r : Rw) (n : Nat) : List Px := (List.range n).map (rawPl r)
theorem rawOps_len (r : Rw) (n : Nat) : (rawOps r n).length = n := by simp [rawOps]
theorem rawEvs_len (r : Rw) (n : Nat) : (rawEvs r n).length = n := by simp [rawEvs]
theorem rawOps_snoc (r : Rw) (n : Nat) : rawOps r n ++ [rawOp r n] = rawOps r (n + 1) := by simp [rawOps, List.range_succ]
theorem rawEvs_snoc (r : Rw) (n : Nat) : rawEvs r n ++ [rawPl r n] = rawEvs r (n + 1) := by simp [rawEvs, List.range_succ]
theorem getD_mem {α : Type} {l : List α} {i : Nat} {d : α} (h : i < l.length) : l.getD i d ∈ l := by
 rw [List.getD, List.getElem?_eq_getElem h]
 exact List.getElem_mem h
theorem rawOp_right {r : Rw} (h : r.Ok) {i : Nat} (hi : i < r.ks.length) : (rawOp r i).Right := by
 have h1 := h.ks _ (getD_mem (d := 0) hi)
 refine ⟨?_, h1, xq8 _⟩
 show 0 <= r.ks.getD i 0 % 256 /\ r.ks.getD i 0 % 256 <= 255
 omega
theorem rawPl_right {r : Rw} (h : r.Ok) {i : Nat} (hi : i < r.ss.length) : (rawPl r i).Right := by
 have h1 := h.ss _ (getD_mem (d := 0) hi)
 have h2 := h.ns
 refine ⟨?_, ofE_right _ _ _ _ _ _ _ _, ofE_ok (by omega) h.tx.2 h.a⟩
 show 0 <= ((r.ss.getD i 0 : Nat) : Int) /\ ((r.ss.getD i 0 : Nat) : Int) <= 255
 omega
def xqL (r : Rw) (M : Int) (l : List Int) : En :=
 if r.k % 11 = 0 then ⟨1, xqd r.tx, xqd r.n, xqd r.a, rawOps r r.ks.length, rawEvs r r.ss.length, 0, 0, [], 0, ⟨#[]⟩, 0, 0⟩
 else if r.k % 11 = 7 then ⟨8, xqd r.tx, xqd r.n, xqd r.a, [], rawEvs r r.ss.length, 0, 0, [], 0, ⟨#[]⟩, 0, r.a⟩
 else if r.k % 11 = 1 then ⟨2, 0, 0, 0, [], [], xqd r.n, M, l, r.a, ⟨#[]⟩, 0, 0⟩
 else if r.k % 11 < 6 then ⟨1 + ((r.k % 11 : Nat) : Int), 0, 0, 0, [], [], 0, 0, [], 0, cutS r.nm, xqd r.n, 0⟩
 else if r.k % 11 = 6 then ⟨7, 0, 0, 0, [], [], 0, 0, [], 0, cutS r.nm, xqd r.n, r.a⟩
 else if r.k % 11 < 10 then ⟨1 + ((r.k % 11 : Nat) : Int), 0, 0, 0, [], [], 0, 0, [], 0, ⟨#[]⟩, xqd r.n, 0⟩
 else ⟨11, 0, 0, 0, rawOps r r.ks.length, [], 0, 0, [], 0, ⟨#[]⟩, xqd r.n, 0⟩
theorem whole_zero : whole 0 := ⟨by decide, by decide⟩
theorem up_whole {M : Int} (hM : M <= 1000) : ∀ {l : List Int} {b : Int}, 0 <= b -> upB M b l = true -> ∀ n ∈ l, whole n := by
 intro l
 induction l with
 | nil => intro b _ _ n hn; simp at hn
 | cons y t ih =>
 intro b hb h n hn
 simp only [upB, Bool.and_eq_true, decide_eq_true_eq] at h
 rcases List.mem_cons.1 hn with rfl | hn
 ·exact ⟨by omega, by omega⟩
 exact ih (b := y) (by omega) h.2.2 n hn
theorem rawEn_right {r : Rw} (h : r.Ok) {M : Int} {l : List Int} (hM : 1 <= M /\ M <= 40) (hl : upB M 0 l = true) : (xqL r M l).Right := by
 have hk := h.k
 have w0 := whole_zero
 have wt := wholeN_whole h.tx; have wn := wholeN_whole h.n; have wa := wholeN_whole h.a
 have no := rawOps_len r r.ks.length; have ne := rawEvs_len r r.ss.length
 have hnk := h.nk; have hns := h.ns
 have wM : whole M := ⟨by omega, by omega⟩
 have ro : ∀ o ∈ rawOps r r.ks.length, o.Right := by
  intro o ho
  obtain ⟨i, hi, rfl⟩ := List.mem_map.1 ho
  exact rawOp_right h (List.mem_range.1 hi)
 have re : ∀ x ∈ rawEvs r r.ss.length, x.Right := by
  intro o ho
  obtain ⟨i, hi, rfl⟩ := List.mem_map.1 ho
  exact rawPl_right h (List.mem_range.1 hi)
 have hlw := up_whole (by omega : M <= 1000) (Int.le_refl 0) hl
 have hll := upB_len hl (by omega)
 have e0 : (⟨#[]⟩ : ByteArray).size <= 40 := by decide
 have cn := xq8 r.nm
 have z0 : (-9223372036854775808 : Int) <= 0 /\ (0 : Int) <= 9223372036854775807 := ⟨by decide, by decide⟩
 unfold xqL
 split
 ·exact ⟨by dsimp only; omega, wt, wn, wa, ro, by dsimp only; omega, re, by dsimp only; omega, w0, w0, by simp, by simp, z0, e0, w0, z0⟩
 split
 ·exact ⟨by dsimp only; omega, wt, wn, wa, by simp, by simp, re, by dsimp only; omega, w0, w0, by simp, by simp, z0, e0, w0, h.a⟩
 split
 ·exact ⟨by dsimp only; omega, w0, w0, w0, by simp, by simp, by simp, by simp, wn, wM, hlw, by dsimp only; omega, h.a, e0, w0, z0⟩
 split
 ·exact ⟨by dsimp only; omega, w0, w0, w0, by simp, by simp, by simp, by simp, w0, w0, by simp, by simp, z0, cn, wn, z0⟩
 split
 ·exact ⟨by dsimp only; omega, w0, w0, w0, by simp, by simp, by simp, by simp, w0, w0, by simp, by simp, z0, cn, wn, h.a⟩
 split
 ·exact ⟨by dsimp only; omega, w0, w0, w0, by simp, by simp, by simp, by simp, w0, w0, by simp, by simp, z0, e0, wn, z0⟩
 exact ⟨by dsimp only; omega, w0, w0, w0, ro, by dsimp only; omega, by simp, by simp, w0, w0, by simp, by simp, z0, e0, wn, z0⟩
theorem rawEn_norm (r : Rw) (M : Int) (l : List Int) : (xqL r M l).norm = xqL r M l := by
 unfold xqL
 split
 ·rfl
 split
 ·rfl
 split
 ·rfl
 split
 ·rename_i h1 h2 h3 h4
  unfold En.norm
  dsimp only
  rw [if_neg (by omega), if_neg (by omega), if_neg (by omega), if_pos (by omega)]
 split
 ·rfl
 split
 ·rename_i h1 h2 h3 h4 h5 h6
  unfold En.norm
  dsimp only
  rw [if_neg (by omega), if_neg (by omega), if_neg (by omega), if_neg (by omega), if_neg (by omega), if_pos (by omega)]
 rfl
theorem encL_norm (e : En) : e.norm.encL = e.encL := by
 unfold En.norm
 by_cases h1 : e.k = 1
 ·rw [if_pos h1]; unfold En.encL En.body; rw [if_pos h1, h1]; rfl
 rw [if_neg h1]
 by_cases h8 : e.k = 8
 ·rw [if_pos h8]; unfold En.encL En.body; rw [if_neg h1, if_pos h8, h8]; rfl
 rw [if_neg h8]
 by_cases h2 : e.k = 2
 ·rw [if_pos h2]; unfold En.encL En.body; rw [if_neg h1, if_neg h8, if_pos h2, h2]; rfl
 rw [if_neg h2]
 by_cases h3 : 3 <= e.k /\ e.k <= 6
 ·rw [if_pos h3]; unfold En.encL En.body; dsimp only; rw [if_neg h1, if_neg h8, if_neg h2, if_pos h3, if_neg h1, if_neg h8, if_neg h2, if_pos h3]; rfl
 rw [if_neg h3]
 by_cases h7 : e.k = 7
 ·rw [if_pos h7]; unfold En.encL En.body; rw [if_neg h1, if_neg h8, if_neg h2, if_neg h3, if_pos h7, h7]; rfl
 rw [if_neg h7]
 by_cases h9 : e.k = 9 ∨ e.k = 10
 ·rw [if_pos h9]; unfold En.encL En.body; dsimp only; rw [if_neg h1, if_neg h8, if_neg h2, if_neg h3, if_neg h7, if_pos h9, if_neg h1, if_neg h8, if_neg h2, if_neg h3, if_neg h7, if_pos h9]; rfl
 rw [if_neg h9]
 by_cases h11 : e.k = 11
 ·rw [if_pos h11]; unfold En.encL En.body; rw [if_neg h1, if_neg h8, if_neg h2, if_neg h3, if_neg h7, if_neg h9, if_pos h11, h11]; rfl
 rw [if_neg h11]; unfold En.encL En.body; dsimp only; rw [if_neg h1, if_neg h8, if_neg h2, if_neg h3, if_neg h7, if_neg h9, if_neg h11, if_neg h1, if_neg h8, if_neg h2, if_neg h3, if_neg h7, if_neg h9, if_neg h11]
end Go.Proofs.Ytjdbmlifekghfaa
namespace Go.Proofs.Ytjdbmlifekghfaa
open Go.ChangeShapes Go.WideShapes Go.RowKit
def Rw.cs (r : Rw) (vl vk vg vs : Value) : Array Value := #[.int .u8 (r.k : Nat), .int .i64 r.tx, .int .i64 r.n, .int .i64 r.a, .string r.nm, .int .u8 (r.M : Nat), vl, vk, .string r.t, vg, vs]
structure RdW (w : World) (r : Rw) (vl vk vg vs : Value) (bl bg bs : List UInt8) : Prop where
 l : Rd w vl bl
 k : RdI w vk r.ks
 g : Rd w vg bg
 s : Rd w vs bs
 eg : r.gs = bg.map UInt8.toNat
 es : r.ss = bs.map UInt8.toNat
theorem RdW.keep {w w' : World} {r : Rw} {vl vk vg vs : Value} {bl bg bs : List UInt8} (h : RdW w r vl vk vg vs bl bg bs) (k : Kept w w' []) : RdW w' r vl vk vg vs bl bg bs :=
 ⟨h.l.kept k (by simp), h.k.kept k (by simp), h.g.kept k (by simp), h.s.kept k (by simp), h.eg, h.es⟩
structure Rw.Num (r : Rw) : Prop where
 k : r.k < 256
 M : r.M < 256
 tx : -9223372036854775808 <= r.tx /\ r.tx <= 9223372036854775807
 n : -9223372036854775808 <= r.n /\ r.n <= 9223372036854775807
 a : -9223372036854775808 <= r.a /\ r.a <= 9223372036854775807
 ks : ∀ x ∈ r.ks, -9223372036854775808 <= x /\ x <= 9223372036854775807
structure Rw.Small (r : Rw) (bl bg bs : List UInt8) : Prop where
 nm : r.nm.size <= 60
 l : bl.length <= 8
 k : r.ks.length <= 12
 t : r.t.size <= 60
 g : bg.length <= 12
 s : bs.length <= 6
theorem Rw.Small.ok {w : World} {r : Rw} {vl vk vg vs : Value} {bl bg bs : List UInt8} (h : r.Small bl bg bs) (n : r.Num) (d : RdW w r vl vk vg vs bl bg bs) : r.Ok :=
 ⟨n.k, n.tx, n.n, n.a, n.ks, fun x hx => by rw [d.eg] at hx; obtain ⟨b, _, rfl⟩ := List.mem_map.1 hx; have := b.toNat_lt; omega, fun x hx => by rw [d.es] at hx; obtain ⟨b, _, rfl⟩ := List.mem_map.1 hx; have := b.toNat_lt; omega, h.k, by rw [d.es, List.length_map]; exact h.s⟩
theorem isRow_rdI {w : World} {a : Option Addr} {len cap : Nat} {zs : List Int} (h : IsRow .i64 w a len cap zs) : ∃ l : List Int, l.length = len /\ RdI w (.slice a len cap) l /\ ∀ x ∈ l, (Lit.int .i64 x).wf = true := by
 rcases h with ⟨rfl, rfl, rfl, rfl⟩ | ⟨x, rfl, hl, hm, hz, hcell, hwz⟩
 ·exact ⟨[], rfl, RdI.nil w, by simp⟩
 have hlen : (zs.take len).length = len := by simp; omega
 refine ⟨zs.take len, hlen, ⟨some x, cap, by rw [hlen], by omega, hm, by simp, fun hne => ?_⟩, fun y hy => hwz y (List.mem_of_mem_take hy)⟩
 have hpos : 0 < len := by rw [<- hlen]; exact List.length_pos_iff.2 hne
 obtain ⟨b, off, spot⟩ := x
 have h0 := hcell 0 (by omega)
 have hspot : spot = none := by simpa [Addr.add] using World.cell?_spot h0
 subst hspot
 refine ⟨b, off, rfl, fun i hi => ?_⟩
 rw [hlen] at hi
 have hc := hcell i (by omega)
 rw [Addr.add_lit] at hc
 rw [hc]
 congr 2
 simp [List.getD, hi]
theorem array11 {α : Type} {cs : Array α} (h : cs.size = 11) : ∃ c0 c1 c2 c3 c4 c5 c6 c7 c8 c9 c10, cs = #[c0, c1, c2, c3, c4, c5, c6, c7, c8, c9, c10] := by
 obtain ⟨l⟩ := cs
 match l, h with
 | [c0, c1, c2, c3, c4, c5, c6, c7, c8, c9, c10], _ => exact ⟨c0, c1, c2, c3, c4, c5, c6, c7, c8, c9, c10, rfl⟩
section
variable {H : Type} {enc : TypeId × Value -> H} {P : Program} {w : World} {base : Nat} {spare : Nat -> Bool} {held : Bool}
theorem trod_one {fuel : Nat} {t : TypeId} {fs : Array Field} {cs : List Value} {x : DataW H × List MemPlace} (ht : P.underlying t = some (.struct fs)) (hone : Go.Deep.oneCellFields P fs = true) (h : DataW.trod enc P w base spare held fuel t cs = some x) :
  ∃ n, ∀ (i : Nat) (f : Field) (c : Value), fs[i]? = some f -> cs[i]? = some c -> ∃ y, DataW.trod enc P w base spare held n f.type [c] = some y := by
 obtain ⟨xs, n, _, _, _, hlen, hf⟩ := DataW.trod_struct ht h
 refine ⟨n, fun i f c hi hc => ?_⟩
 obtain ⟨o1, o2⟩ := Go.Deep.hone_of hone i f hi
 have h1 := hf i f hi
 have hlt : i < xs.length := by rw [hlen]; exact (Array.getElem?_eq_some_iff.1 hi).1
 rw [List.getElem?_eq_getElem hlt, o1, o2] at h1
 have h2 : (cs.drop i).take 1 = [c] := by
  obtain ⟨hl, rfl⟩ := List.getElem?_eq_some_iff.1 hc
  rw [List.drop_eq_getElem_cons hl]; rfl
 rw [h2] at h1
 exact ⟨_, h1⟩
theorem row_open {n : Nat} {t e : TypeId} {k : IntKind} {c : Value} {y : DataW H × List MemPlace} (ht : P.underlying t = some (.slice e)) (he : P.underlying e = some (.int k)) (hc : P.cellsOf e = 1)
  (hf : DataW.trod enc P w base (fun _ => true) held n t [c] = some y) : ∃ a len cap zs, c = .slice a len cap /\ IsRow k w a len cap zs := by
 rcases open_ints ht he hc hf with ⟨hcs, _⟩ | ⟨x, l, cp, zs, hcs, _, hl, hm, hz, _, hcell, hwz⟩
 ·simp at hcs
  exact ⟨none, 0, 0, [], hcs, .inl ⟨rfl, rfl, rfl, rfl⟩⟩
 ·simp at hcs
  exact ⟨some x, l, cp, zs, hcs, .inr ⟨_, rfl, hl, hm, by simpa using hz, hcell, hwz⟩⟩
end
theorem raw_open {H : Type} {enc : TypeId × Value -> H} {W : World} {base b0 : Nat} {rr : Reach} {held : Bool} {v : Value} {d : DataW H} {p : List MemPlace}
  (hv : Value.okWide Try.prog W rr b0 25 v) (h : DataW.Trod enc Try.prog W base (fun _ => true) held 25 v d p) :
  ∃ (r : Rw) (vl vk vg vs : Value) (bl bg bs : List UInt8), v = .agg (r.cs vl vk vg vs) /\ RdW W r vl vk vg vs bl bg bs /\ r.Num := by
 obtain ⟨cs, rfl, hsz⟩ := okWide_struct Try.underlying25 hv
 obtain ⟨c0, c1, c2, c3, c4, c5, c6, c7, c8, c9, c10, rfl⟩ := array11 (hsz.trans (show Try.prog.cellsOf 25 = 11 by kernel_rfl))
 obtain ⟨fuel, hf⟩ := h
 obtain ⟨n, T⟩ := trod_one Try.underlying25 (by kernel_rfl) hf
 obtain ⟨y0, h0⟩ := T 0 _ c0 rfl rfl
 obtain ⟨y1, h1⟩ := T 1 _ c1 rfl rfl
 obtain ⟨y2, h2⟩ := T 2 _ c2 rfl rfl
 obtain ⟨y3, h3⟩ := T 3 _ c3 rfl rfl
 obtain ⟨y4, h4⟩ := T 4 _ c4 rfl rfl
 obtain ⟨y5, h5⟩ := T 5 _ c5 rfl rfl
 obtain ⟨y6, h6⟩ := T 6 _ c6 rfl rfl
 obtain ⟨y7, h7⟩ := T 7 _ c7 rfl rfl
 obtain ⟨y8, h8⟩ := T 8 _ c8 rfl rfl
 obtain ⟨y9, h9⟩ := T 9 _ c9 rfl rfl
 obtain ⟨y10, h10⟩ := T 10 _ c10 rfl rfl
 clear T hv hsz
 obtain ⟨a0, e, _, w0⟩ := DataW.trod_int Try.underlying5 h0
 simp at e
 subst e
 have w0 := bounds_u8 w0
 obtain ⟨a0, rfl⟩ := Int.eq_ofNat_of_zero_le w0.1
 obtain ⟨a1, e, _, w1⟩ := DataW.trod_int Try.underlying2 h1
 simp at e
 subst e
 have w1 := bounds_i64 w1
 obtain ⟨a2, e, _, w2⟩ := DataW.trod_int Try.underlying2 h2
 simp at e
 subst e
 have w2 := bounds_i64 w2
 obtain ⟨a3, e, _, w3⟩ := DataW.trod_int Try.underlying2 h3
 simp at e
 subst e
 have w3 := bounds_i64 w3
 obtain ⟨a4, e, _, w4⟩ := DataW.trod_string Try.underlying9 h4
 simp at e
 subst e
 obtain ⟨a5, e, _, w5⟩ := DataW.trod_int Try.underlying5 h5
 simp at e
 subst e
 have w5 := bounds_u8 w5
 obtain ⟨a5, rfl⟩ := Int.eq_ofNat_of_zero_le w5.1
 obtain ⟨p6, l6, q6, zs6, rfl, w6⟩ := row_open Try.underlying22 Try.underlying5 (by kernel_rfl) h6
 obtain ⟨b6, _, r6⟩ := isRow_rd w6
 obtain ⟨p7, l7, q7, zs7, rfl, w7⟩ := row_open Try.underlying23 Try.underlying2 (by kernel_rfl) h7
 obtain ⟨b7, _, r7, u7⟩ := isRow_rdI w7
 obtain ⟨a8, e, _, w8⟩ := DataW.trod_string Try.underlying9 h8
 simp at e
 subst e
 obtain ⟨p9, l9, q9, zs9, rfl, w9⟩ := row_open Try.underlying22 Try.underlying5 (by kernel_rfl) h9
 obtain ⟨b9, _, r9⟩ := isRow_rd w9
 obtain ⟨p10, l10, q10, zs10, rfl, w10⟩ := row_open Try.underlying22 Try.underlying5 (by kernel_rfl) h10
 obtain ⟨b10, _, r10⟩ := isRow_rd w10
 exact ⟨⟨a0, a1, a2, a3, a4, a5, b6.map UInt8.toNat, b7, a8, b9.map UInt8.toNat, b10.map UInt8.toNat⟩, _, _, _, _, b6, b9, b10, rfl, ⟨r6, r7, r9, r10, rfl, rfl⟩, ⟨by dsimp only; omega, by dsimp only; omega, w1, w2, w3, fun x hx => bounds_i64 (u7 x hx)⟩⟩
theorem xqy (n : Int) (w : World) (h : -9223372036854775808 <= n /\ n <= 9223372036854775807) :
  Calls Try.prog 25 #[.int .i64 n] w fun e w' => e = .returned (.int .i64 (xqd n)) /\ w = w' := by
 by_cases h0 : n < 0
 ·have e1 : wrap64 (n + 1) = n + 1 := by unfold wrap64; omega
  have e2 : wrap64 (-(n + 1)) = -(n + 1) := by unfold wrap64; omega
  have e3 : xqd n = -(n + 1) := by unfold xqd; rw [if_pos h0]
  rw [e3]
  clear e3
  go_enter Try.func25, Try.ntmps25
  go_wp2
  go_ret
  exact ⟨rfl, rfl⟩
 ·have e3 : xqd n = n := by unfold xqd; rw [if_neg h0]
  rw [e3]
  clear e3
  go_enter Try.func25, Try.ntmps25
  go_wp2
  go_ret
  exact ⟨rfl, rfl⟩
theorem Rw.cs_eq (k : Nat) (tx n a : Int) (nm : ByteArray) (M : Nat) (l : List Nat) (ks : List Int) (t : ByteArray) (gs ss : List Nat) (vl vk vg vs : Value) :
  (⟨k, tx, n, a, nm, M, l, ks, t, gs, ss⟩ : Rw).cs vl vk vg vs = #[.int .u8 (k : Nat), .int .i64 tx, .int .i64 n, .int .i64 a, .string nm, .int .u8 (M : Nat), vl, vk, .string t, vg, vs] := rfl
theorem small_yes (r : Rw) (vl vk vg vs : Value) (bl bg bs : List UInt8) (w : World) (d : RdW w r vl vk vg vs bl bg bs) (h : r.Small bl bg bs) :
  Calls Try.prog 10 #[.agg (r.cs vl vk vg vs)] w fun e w' => e = .returned (.bool true) /\ Kept w w' [] := by
 obtain ⟨al, cl, rfl, _⟩ := d.l
 obtain ⟨ak, ck, rfl, _⟩ := d.k
 obtain ⟨ag, cg, rfl, _⟩ := d.g
 obtain ⟨as1, cs1, rfl, _⟩ := d.s
 clear d
 obtain ⟨k, tx, n, a, nm, M, l, ks, t, gs, ss⟩ := r
 rw [Rw.cs_eq]
 have x0 : decide ((nm.size : Int) <= 60) = true := by have := h.nm; (try dsimp only at this); simp; omega
 have x1 : decide ((bl.length : Int) <= 8) = true := by have := h.l; (try dsimp only at this); simp; omega
 have x2 : decide ((ks.length : Int) <= 12) = true := by have := h.k; (try dsimp only at this); simp; omega
 have x3 : decide ((t.size : Int) <= 60) = true := by have := h.t; (try dsimp only at this); simp; omega
 have x4 : decide ((bg.length : Int) <= 12) = true := by have := h.g; (try dsimp only at this); simp; omega
 have x5 : decide ((bs.length : Int) <= 6) = true := by have := h.s; (try dsimp only at this); simp; omega
 clear h
 go_enter Try.func10, Try.ntmps10
 go_wp2
 go_ret
 exact ⟨rfl, (Kept.refl w []).alloc _⟩
theorem small_no (r : Rw) (vl vk vg vs : Value) (bl bg bs : List UInt8) (w : World) (d : RdW w r vl vk vg vs bl bg bs) (h : ¬ r.Small bl bg bs) :
  Calls Try.prog 10 #[.agg (r.cs vl vk vg vs)] w fun e w' => e = .returned (.bool false) /\ Kept w w' [] := by
 obtain ⟨al, cl, rfl, _⟩ := d.l
 obtain ⟨ak, ck, rfl, _⟩ := d.k
 obtain ⟨ag, cg, rfl, _⟩ := d.g
 obtain ⟨as1, cs1, rfl, _⟩ := d.s
 clear d
 obtain ⟨k, tx, n, a, nm, M, l, ks, t, gs, ss⟩ := r
 rw [Rw.cs_eq]
 by_cases h0 : nm.size <= 60
 case neg =>
  have x0 : decide ((nm.size : Int) <= 60) = false := by simp; omega
  clear h h0
  go_enter Try.func10, Try.ntmps10
  go_wp2
  go_ret
  exact ⟨rfl, (Kept.refl w []).alloc _⟩
 by_cases h1 : bl.length <= 8
 case neg =>
  have x0 : decide ((nm.size : Int) <= 60) = true := by simp; omega
  have x1 : decide ((bl.length : Int) <= 8) = false := by simp; omega
  clear h h0 h1
  go_enter Try.func10, Try.ntmps10
  go_wp2
  go_ret
  exact ⟨rfl, (Kept.refl w []).alloc _⟩
 by_cases h2 : ks.length <= 12
 case neg =>
  have x0 : decide ((nm.size : Int) <= 60) = true := by simp; omega
  have x1 : decide ((bl.length : Int) <= 8) = true := by simp; omega
  have x2 : decide ((ks.length : Int) <= 12) = false := by simp; omega
  clear h h0 h1 h2
  go_enter Try.func10, Try.ntmps10
  go_wp2
  go_ret
  exact ⟨rfl, (Kept.refl w []).alloc _⟩
 by_cases h3 : t.size <= 60
 case neg =>
  have x0 : decide ((nm.size : Int) <= 60) = true := by simp; omega
  have x1 : decide ((bl.length : Int) <= 8) = true := by simp; omega
  have x2 : decide ((ks.length : Int) <= 12) = true := by simp; omega
  have x3 : decide ((t.size : Int) <= 60) = false := by simp; omega
  clear h h0 h1 h2 h3
  go_enter Try.func10, Try.ntmps10
  go_wp2
  go_ret
  exact ⟨rfl, (Kept.refl w []).alloc _⟩
 by_cases h4 : bg.length <= 12
 case neg =>
  have x0 : decide ((nm.size : Int) <= 60) = true := by simp; omega
  have x1 : decide ((bl.length : Int) <= 8) = true := by simp; omega
  have x2 : decide ((ks.length : Int) <= 12) = true := by simp; omega
  have x3 : decide ((t.size : Int) <= 60) = true := by simp; omega
  have x4 : decide ((bg.length : Int) <= 12) = false := by simp; omega
  clear h h0 h1 h2 h3 h4
  go_enter Try.func10, Try.ntmps10
  go_wp2
  go_ret
  exact ⟨rfl, (Kept.refl w []).alloc _⟩
 by_cases h5 : bs.length <= 6
 case neg =>
  have x0 : decide ((nm.size : Int) <= 60) = true := by simp; omega
  have x1 : decide ((bl.length : Int) <= 8) = true := by simp; omega
  have x2 : decide ((ks.length : Int) <= 12) = true := by simp; omega
  have x3 : decide ((t.size : Int) <= 60) = true := by simp; omega
  have x4 : decide ((bg.length : Int) <= 12) = true := by simp; omega
  have x5 : decide ((bs.length : Int) <= 6) = false := by simp; omega
  clear h h0 h1 h2 h3 h4 h5
  go_enter Try.func10, Try.ntmps10
  go_wp2
  go_ret
  exact ⟨rfl, (Kept.refl w []).alloc _⟩
 exact absurd ⟨h0, h1, h2, h3, h4, h5⟩ h
end Go.Proofs.Ytjdbmlifekghfaa
namespace Go.Proofs.Ytjdbmlifekghfaa
open Go.RowKit
theorem dOps_snoc (k : Nat) : ∀ (e : Int) (l : List UInt8), (dOps k e l).2.2 = 0 -> dOps (k + 1) e l = ((dOps k e l).1 ++ [dOp (dOps k e l).2.2 (dOps k e l).2.1], (oD (dOps k e l).2.2 (dOps k e l).2.1).2) := by
 induction k with
 | zero => intro e l h; simp only [dOps] at h ⊢; rw [if_pos h, List.nil_append]
 | succ k ih =>
 intro e l h
 by_cases he : e = 0
 ·rw [dOps, if_pos he] at h
  have h1 := ih _ _ h
  rw [dOps, if_pos he, h1]
  rw [dOps, if_pos he]
  rfl
 rw [dOps, if_neg he] at h
 exact absurd h he
theorem dOps_stop (k : Nat) : ∀ (n : Nat) (e : Int) (l : List UInt8), k <= n -> (dOps k e l).2.2 ≠ 0 -> (dOps n e l).2.2 = (dOps k e l).2.2 := by
 induction k with
 | zero =>
  intro n e l _ h
  change e ≠ 0 at h
  cases n with
  | zero => rfl
  | succ n => simp only [dOps, if_neg h]
 | succ k ih =>
 intro n e l hn h
 obtain ⟨n, rfl⟩ : ∃ m, n = m + 1 := ⟨n - 1, by omega⟩
 by_cases he : e = 0
 ·rw [dOps, if_pos he] at h ⊢
  rw [dOps, if_pos he]
  exact ih n _ _ (by omega) h
 rw [dOps, if_neg he, dOps, if_neg he]
theorem dEvs_snoc (k : Nat) : ∀ (e : Int) (l : List UInt8), (dEvs k e l).2.2 = 0 -> dEvs (k + 1) e l = if (pB (dEvs k e l).2.2 (dEvs k e l).2.1).2.2 = 0 then ((dEvs k e l).1 ++ [dPl (dEvs k e l).2.2 (dEvs k e l).2.1], pL (dEvs k e l).2.2 (dEvs k e l).2.1, dErr (pB (dEvs k e l).2.2 (dEvs k e l).2.1).1) else ((dEvs k e l).1, (pB (dEvs k e l).2.2 (dEvs k e l).2.1).2) := by
 induction k with
 | zero => intro e l h; simp only [dEvs] at h ⊢; rw [if_pos h]; simp only [List.nil_append]; rfl
 | succ k ih =>
 intro e l h
 by_cases he : e = 0
 ·by_cases hp : (pB e l).2.2 = 0
  ·rw [dEvs, if_pos he, if_pos hp] at h
   have h1 := ih _ _ h
   rw [dEvs, if_pos he, if_pos hp, h1]
   rw [dEvs, if_pos he, if_pos hp]
   dsimp only
   split
   ·rfl
   rfl
  rw [dEvs, if_pos he, if_neg hp] at h
  exact absurd h hp
 rw [dEvs, if_neg he] at h
 exact absurd h he
theorem dEvs_stop (k : Nat) : ∀ (n : Nat) (e : Int) (l : List UInt8), k <= n -> (dEvs k e l).2.2 ≠ 0 -> (dEvs n e l).2.2 = (dEvs k e l).2.2 := by
 induction k with
 | zero =>
  intro n e l _ h
  change e ≠ 0 at h
  cases n with
  | zero => rfl
  | succ n => simp only [dEvs, if_neg h]
 | succ k ih =>
 intro n e l hn h
 obtain ⟨n, rfl⟩ : ∃ m, n = m + 1 := ⟨n - 1, by omega⟩
 by_cases he : e = 0
 ·by_cases hp : (pB e l).2.2 = 0
  ·rw [dEvs, if_pos he, if_pos hp] at h ⊢
   rw [dEvs, if_pos he, if_pos hp]
   exact ih n _ _ (by omega) h
  rw [dEvs, if_pos he, if_neg hp, dEvs, if_pos he, if_neg hp]
 rw [dEvs, if_neg he, dEvs, if_neg he]
theorem dOpen_snoc (k : Nat) : ∀ (e : Int) (l : List UInt8), (xqs k e l).2.2 = 0 -> xqs (k + 1) e l = ((xqs k e l).1 ++ [((wA (xqs k e l).2.2 (xqs k e l).2.1).1 : Int)], (wA (xqs k e l).2.2 (xqs k e l).2.1).2) := by
 induction k with
 | zero => intro e l h; simp only [xqs] at h ⊢; rw [if_pos h, List.nil_append]
 | succ k ih =>
 intro e l h
 by_cases he : e = 0
 ·rw [xqs, if_pos he] at h
  have h1 := ih _ _ h
  rw [xqs, if_pos he, h1]
  rw [xqs, if_pos he]
  rfl
 rw [xqs, if_neg he] at h
 exact absurd h he
theorem dOpen_stop (k : Nat) : ∀ (n : Nat) (e : Int) (l : List UInt8), k <= n -> (xqs k e l).2.2 ≠ 0 -> (xqs n e l).2.2 = (xqs k e l).2.2 := by
 induction k with
 | zero =>
  intro n e l _ h
  change e ≠ 0 at h
  cases n with
  | zero => rfl
  | succ n => simp only [xqs, if_neg h]
 | succ k ih =>
 intro n e l hn h
 obtain ⟨n, rfl⟩ : ∃ m, n = m + 1 := ⟨n - 1, by omega⟩
 by_cases he : e = 0
 ·rw [xqs, if_pos he] at h ⊢
  rw [xqs, if_pos he]
  exact ih n _ _ (by omega) h
 rw [xqs, if_neg he, xqs, if_neg he]
theorem xqE (m e : Int) (l : List UInt8) : (xqg m e l).2.1.length <= l.length := by
 have := xqt e l
 unfold xqg xqG
 split
 ·split
  ·simp
  split
  ·simp
  simp only [List.length_drop]; omega
 exact this
theorem oD_len (e : Int) (l : List UInt8) : (oD e l).2.1.length <= l.length := by
 have h1 : (oA e l).2.1.length <= l.length := xqm _ _ _ _
 have h2 : (oB e l).2.1.length <= (oA e l).2.1.length := xqm _ _ _ _
 have h3 : (oC e l).2.1.length <= (oB e l).2.1.length := xqt _ _
 have h4 : (oD e l).2.1.length <= (oC e l).2.1.length := xqE _ _ _
 omega
theorem pB_len (e : Int) (l : List UInt8) : (pB e l).2.1.length <= l.length := by
 have h1 : (pA e l).2.1.length <= l.length := xqm _ _ _ _
 have h2 : (pB e l).2.1.length <= (pA e l).2.1.length := xqE _ _ _
 omega
theorem pL_len (e : Int) (l : List UInt8) : (pL e l).length <= l.length := by
 have := pB_len e l
 unfold pL
 split
 ·exact this
 simp
theorem dOps_len (k : Nat) : ∀ (e : Int) (l : List UInt8), (dOps k e l).2.1.length <= l.length := by
 induction k with
 | zero => intro e l; exact Nat.le_refl _
 | succ k ih =>
 intro e l
 rw [dOps]
 split
 ·have := ih (oD e l).2.2 (oD e l).2.1; have := oD_len e l; dsimp only; omega
 exact Nat.le_refl _
theorem dEvs_len (k : Nat) : ∀ (e : Int) (l : List UInt8), (dEvs k e l).2.1.length <= l.length := by
 induction k with
 | zero => intro e l; exact Nat.le_refl _
 | succ k ih =>
 intro e l
 rw [dEvs]
 split
 ·split
  ·have := ih (dErr (pB e l).1) (pL e l); have := pL_len e l; dsimp only; omega
  exact pB_len e l
 exact Nat.le_refl _
theorem bA_le (e : Int) (l : List UInt8) : (bA e l).2.2 = 0 -> (bA e l).1 <= 255 := by
 unfold bA rfN
 split
 ·intro h; exact absurd h (by decide)
 rename_i h
 intro h0
 simp only [badN, h0, decide_true, Bool.true_and, Bool.or_eq_true, decide_eq_true_eq, not_or] at h
 omega
end Go.Proofs.Ytjdbmlifekghfaa
