/-
 Te, Tf, Th, Ti, Tj, Soi, Soj in one text.
-/
import Derived.Test.YticiofkiffgclaaGreatQu0
import Derived.Test.YticiofkiffgclaaGreatQu15
import Derived.Deep.RegionHeld3
import Derived.Test.YticiofkiffgclaaGreatQu13
import Derived.Test.YticiofkiffgclaaGreatQu9
import Derived.Deep.Slices
import Derived.Deep.Fields
import Derived.Deep.Grids
import Derived.ChangeSame
import Derived.LoopTactic
import Derived.ProofKit
import Derived.OpenShut
import Derived.ChangeOld
import Derived.Below
import Derived.Deep.QuietTactic
import Derived.BigQuiet
import Derived.Test.YticiofkiffgclaaGreatShelfS
import Derived.Test.YticiofkiffgclaaGreatQu11
set_option linter.unusedVariables false
set_option maxHeartbeats 16000000
set_option maxRecDepth 100000
namespace Go.Proofs.YticiofkiffgclaaGreat
open Go.RowKit Go.Maps Go.Sort Go.Shelf
theorem sorts_any (m : Nat) : AnyZI.SortsIn Tryz.prog Tryz.sortedA_ren Fence.wide m :=
 ⟨fun blk off cap ss W hH hblk hsz => callsIn_wide.2 (AnyM.slices_Sort_int Tryz.sortA blk off cap ss W hH hblk hsz),
  fun p cap W => callsIn_wide.2 (AnyM.slices_Sort_int_none Tryz.sortA p cap W)⟩
theorem keys_any (mb : Option Nat) (W : World) : Calls Tryz.prog 85 #[.map mb] W fun e w' => e = .returned (.func (.func 143) #[] #[.pointer (some ⟨W.heap.size, 0, none⟩)]) /\ w' = W.alloc (.cells #[.map mb] 117) :=
 (callsIn_wide (n := 5)).1 (AnyZI.keys_in Tryz.keysA Fence.wide 5 trivial rfl mb W)
theorem sorted_any {W : World} {b n c : Nat} {l : List Int} (h : Mp W b n l) (hc : W.cell? ⟨c, 0, none⟩ = some (.map (some b))) (hs : l.Pairwise (fun a b => a < b)) (hl : l.length <= 1048576) :
 Calls Tryz.prog 84 #[.func (.func 143) #[] #[.pointer (some ⟨c, 0, none⟩)]] W fun e w' => ∃ v, e = .returned v /\ w'.ownsRow W.heap.size 2 1 v l.length (l.map encZ) /\ Kept W w' [] := by
 have hcl : c < W.heap.size := World.block_lt_of_cell? W _ hc
 have hseq : SeqGives Fence.wide 2 Tryz.prog 143 #[.pointer (some ⟨c, 0, none⟩)] encZ (fun ss => ss.Perm (intKeys (Dm l))) (Maps.size (Dm l)) W :=
  AnyZI.keys_gives (ρ := Tryz.keysA_ren) { Tryz.keysA with } Fence.wide _ trivial rfl (by omega) c b n (Dm l) _ hcl hc h
 have hmax : Maps.size (Dm l) <= maxLen := by rw [size_Dm]; simp only [maxLen]; omega
 have hbytes : Maps.size (Dm l) * 8 <= 140737488355328 := by rw [size_Dm]; omega
 have cS := AnyZI.sorted_in Tryz.sortedA Fence.wide 5 trivial trivial trivial trivial rfl (by omega) (sorts_any _) (enters_of Tryz.func142 (by kernel_rfl) rfl) 143 #[.pointer (some ⟨c, 0, none⟩)] trivial (enters_of Tryz.func143 (by kernel_rfl) rfl) _ _ hmax hbytes _ hseq
 refine ((callsIn_wide (n := 5)).1 cS).mono ?_
 rintro e w' ⟨v, ss, rfl, hp, hrow, _, hb⟩
 rw [intKeys_Dm] at hp
 have hlen : ss.length = l.length := hp.length_eq
 rw [sort_sorted hp hs, hlen] at hrow
 exact ⟨v, rfl, hrow, Kept.ofBelow hb []⟩
theorem ownsRow_low {w : World} {base base' : Nat} {e : TypeId} {size n : Nat} {v : Value} {xs : List Value} (h : w.ownsRow base e size v n xs) (hb : base' <= base) : w.ownsRow base' e size v n xs := by
 refine ⟨h.1, ?_⟩
 rcases h.2 with h2 | ⟨g, cap, cur, rfl, hbg, r⟩
 ·exact .inl h2
 exact .inr ⟨g, cap, cur, rfl, by omega, r⟩
theorem res_cells {w : World} {g : Nat} {u v : Value} {t : TypeId} (h : w.heap[g]? = some (.cells #[u, v] t (0, 0))) : w.cell? ⟨g, 0, none⟩ = some u /\ w.cell? ⟨g, 1, none⟩ = some v /\ w.frozen? ⟨g, 0, none⟩ = false /\ w.frozen? ⟨g, 1, none⟩ = false :=
 ⟨by rw [cell_of_row w g 0 _ _ _ h]; rfl, by rw [cell_of_row w g 1 _ _ _ h]; rfl, frozen_of_row _ _ _ _ _ h, frozen_of_row _ _ _ _ _ h⟩
theorem set_far {w : World} {g i p j : Nat} {u v : Value} (h : p ≠ g) (hc : w.cell? ⟨p, j, none⟩ = some v) : (w.setCell ⟨g, i, none⟩ u).cell? ⟨p, j, none⟩ = some v :=
 ((Kept.refl w [g]).setCell (p := ⟨g, i, none⟩) (.inl (by simp)) u).cell (p := ⟨p, j, none⟩) (by simpa using h) hc
theorem mnow_any {w : World} {B p b : Nat} {v : Value} {st : List Nat} (h : Mg w B p b v st) :
 Calls Tryz.prog 25 #[.pointer (some ⟨p, 0, none⟩)] w fun e w' => ∃ a c, e = .returned (.agg #[.int .i64 ((st.length : Int) + 1), .slice a (xqp st).length c]) /\ w'.ownsRow w.heap.size 2 1 (.slice a (xqp st).length c) (xqp st).length ((xqp st).map encZ) /\ Kept w w' [] := by
 obtain ⟨m, hm⟩ : ∃ m, (xqp st).length = m := ⟨_, rfl⟩
 rw [hm]
 obtain ⟨W1, hW1⟩ : ∃ W1, W1 = w.alloc (.cells #[.int .i64 0, .slice none 0 0] 36) := ⟨_, rfl⟩
 have hz1 : W1.heap.size = w.heap.size + 1 := by rw [hW1]; simp
 have hk1 : Kept w W1 [] := by rw [hW1]; exact (Kept.refl w []).alloc _
 have K1 := iH hk1
 have hb1 : W1.heap[w.heap.size]? = some (.cells #[.int .i64 0, .slice none 0 0] 36 (0, 0)) := by rw [hW1]; exact heap_alloc_new w _
 have B1 := iH hb1
 have H1 := iH (h.keep hk1)
 obtain ⟨n, hn⟩ : ∃ n : Int, n = (st.length : Int) + 1 := ⟨_, rfl⟩
 rw [<- hn]
 have HN : Hid (∀ V, Kept W1 V [] -> Calls Tryz.prog 17 #[.pointer (some ⟨p, 0, none⟩)] V fun e w' => e = .returned (.int .i64 n) /\ V = w') := iH (fun V hV => by
  refine (mnext_any (H1.out.keep hV)).mono ?_
  rintro e w' ⟨rfl, rfl⟩
  exact ⟨by rw [hn], rfl⟩)
 have HK : Hid (∀ V, Kept W1 V [] -> Calls Tryz.prog 85 #[.map (some b)] V fun e w' => ∃ c, e = .returned (.func (.func 143) #[] #[.pointer (some ⟨c, 0, none⟩)]) /\ w'.cell? ⟨c, 0, none⟩ = some (.map (some b)) /\ Kept W1 w' []) := iH (fun V hV => by
  refine (keys_any _ V).mono ?_
  rintro e w' ⟨rfl, rfl⟩
  exact ⟨_, rfl, by rw [cell_of_row _ _ 0 _ _ _ (heap_alloc_new V _)]; rfl, hV.alloc _⟩)
 have HS : Hid (∀ V c, Kept W1 V [] -> V.cell? ⟨c, 0, none⟩ = some (.map (some b)) -> Calls Tryz.prog 84 #[.func (.func 143) #[] #[.pointer (some ⟨c, 0, none⟩)]] V fun e w' => ∃ a c, e = .returned (.slice a m c) /\ w'.ownsRow w.heap.size 2 1 (.slice a m c) m ((xqp st).map encZ) /\ Kept W1 w' []) := iH (fun V c hV hc => by
  refine (sorted_any (H1.out.keep hV).hm hc (opens_sorted st) (by have := yqu st; have := H1.out.hl; omega)).mono ?_
  rintro e w' ⟨u, rfl, ho, hk⟩
  obtain ⟨a, c, rfl⟩ := xqw ho
  rw [hm] at ho ⊢
  exact ⟨a, c, rfl, ownsRow_low ho (by have := hV.size; omega), hV.trans hk (by simp)⟩)
 have k8 := (Kept.refl W1 []).drew
 have y2 : W1.drew.cell? ⟨p, 0, none⟩ = some (.map (some b)) := H1.out.cell.1
 have hpz : p ≠ w.heap.size := by have := xqh h.hp; omega
 clear h hb1 hk1 hn hm
 go_enter Tryz.func25, Tryz.ntmps25
 go_wp2_with fail
 rw [<- hW1]
 clear hW1
 go_region_held3 (fun V => V.cell? ⟨p, 0, none⟩ = some (.map (some b))) (first | exact y2 | exact set_far hpz (set_far hpz y2))
  (first
   | (go_at_call 17; refine (HN.out _ ?_).mono ?_; assumption; rintro e w8 ⟨rfl, rfl⟩)
   | (go_at_call 85; refine (HK.out _ ?_).mono ?_; assumption; rintro e w8 ⟨c, rfl, c8, k8⟩; have y2 := (H1.out.keep k8).cell.1)
   | (go_at_call 84; refine (HS.out _ _ ?_ ?_).mono ?_; assumption; assumption; rintro e w9 ⟨a9, c9, rfl, ho, k8⟩; have y2 := (H1.out.keep k8).cell.1; obtain ⟨e0, e1, e2, e3⟩ := res_cells (k8.heap (by simp) B1.out)))
 have hb9 := k8.heap (by simp) B1.out
 have hb10 := xqb hb9 0 (.int .i64 n)
 have hb11 := xqb hb10 1 (.slice a9 m c9)
 have f9 : Fr w.heap.size [36] w9 ((w9.setCell ⟨w.heap.size, 0, none⟩ (.int .i64 n)).setCell ⟨w.heap.size, 1, none⟩ (.slice a9 m c9)) :=
  ((Fr.refl _ _ w9).setCell hb9 (.inr ⟨Nat.le_refl _, by simp⟩) 0 _).setCell hb10 (.inr ⟨Nat.le_refl _, by simp⟩) 1 _
 have o11 := xqW ho f9 (by decide)
 have k11 : Kept w ((w9.setCell ⟨w.heap.size, 0, none⟩ (.int .i64 n)).setCell ⟨w.heap.size, 1, none⟩ (.slice a9 m c9)) [] :=
  ((K1.out.trans k8 (by simp)).setCell (p := ⟨w.heap.size, 0, none⟩) (.inr (Nat.le_refl _)) _).setCell (p := ⟨w.heap.size, 1, none⟩) (.inr (Nat.le_refl _)) _
 obtain ⟨w11, hw11⟩ : ∃ w11, w11 = (w9.setCell ⟨w.heap.size, 0, none⟩ (.int .i64 n)).setCell ⟨w.heap.size, 1, none⟩ (.slice a9 m c9) := ⟨_, rfl⟩
 rw [<- hw11] at hb11 o11 k11 ⊢
 obtain ⟨d0, d1, _, _⟩ := res_cells (u := .int .i64 n) (v := .slice a9 m c9) (by simpa using hb11)
 clear hw11 f9 hb9 hb10
 go_wp2
 exact bodyPost_ret (v := .agg #[.int .i64 n, .slice a9 m c9]) (by simp [results, Tryz.results25, go_sem, d0, d1]) rfl ⟨a9, c9, rfl, o11, k11⟩
end Go.Proofs.YticiofkiffgclaaGreat
namespace Go.Proofs.YticiofkiffgclaaGreat
open Go.RowKit Go.Maps
theorem row_head {w : World} {base n c : Nat} {a : Option Addr} {e : TypeId} {xs : List Value} (h : w.ownsRow base e 1 (.slice a n c) n xs) (hn : 0 < n) : ∃ g, a = some ⟨g, 0, none⟩ /\ base <= g /\ n <= c /\ (∃ cur, w.heap[g]? = some (.cells cur e (0, 0))) /\ ∀ i u, xs[i]? = some u -> w.cell? ⟨g, i, none⟩ = some u := by
 rcases h.2 with ⟨hv, h0⟩ | ⟨g, cap, cur, hv, hbg, hg, hnc, hcm, hcs, htk⟩
 ·omega
 simp only [Value.slice.injEq] at hv
 obtain ⟨rfl, _, rfl⟩ := hv
 refine ⟨g, rfl, hbg, hnc, ⟨cur, hg⟩, fun i u hu => ?_⟩
 have := World.ownsRow.cells h (g := g) rfl i u hu
 simpa [Addr.add_lit] using this
def sb (st : List Nat) : List Value := st.map fun (s : Nat) => Value.int .u8 (s : Int)
theorem sb_length (st : List Nat) : (sb st).length = st.length := by simp [sb]
structure Rm (w : World) (B q : Nat) (v : Value) (st : List Nat) : Prop where
 hp : w.heap[q]? = some (.cells #[v] 106 (0, 0))
 hv : w.ownsRow B 5 1 v st.length (sb st)
 bp : B <= q
 hl : st.length < 1048576
 hs : ∀ s ∈ st, 1 <= s /\ s <= 3
def rts : List TypeId := [106, 5]
theorem Rm.frame {w w' : World} {B q C : Nat} {v : Value} {st : List Nat} {ts : List TypeId} (h : Rm w B q v st) (hf : Fm C ts w w') (h1 : 106 ∉ ts) (h2 : 5 ∉ ts) : Rm w' B q v st :=
 { h with hp := hf.heap h.hp h1, hv := ownsRow_fm h.hv hf h2 }
theorem Rm.keep {w w' : World} {B q : Nat} {v : Value} {st : List Nat} (h : Rm w B q v st) (hk : Kept w w' []) : Rm w' B q v st := h.frame (Fm.ofKept hk 0 []) (by simp) (by simp)
theorem Rm.cell {w : World} {B q : Nat} {v : Value} {st : List Nat} (h : Rm w B q v st) : w.cell? ⟨q, 0, none⟩ = some v := by
 rw [cell_of_row w q 0 _ _ _ h.hp]; rfl
theorem Rm.size {w : World} {B q : Nat} {v : Value} {st : List Nat} (h : Rm w B q v st) : B <= w.heap.size := by have := xqh h.hp; have := h.bp; omega
theorem Rm.shape {w : World} {B q : Nat} {v : Value} {st : List Nat} (h : Rm w B q v st) : ∃ a c, v = .slice a st.length c /\ st.length <= c /\ (0 < st.length -> ∃ g, a = some ⟨g, 0, none⟩ /\ B <= g /\ (∃ cur, w.heap[g]? = some (.cells cur 5 (0, 0))) /\ ∀ i, (hi : i < st.length) -> w.cell? ⟨g, i, none⟩ = some (.int .u8 (st[i] : Int))) := by
 obtain ⟨a, c, rfl⟩ := xqw h.hv
 refine ⟨a, c, rfl, ?_, fun h0 => ?_⟩
 ·rcases h.hv.2 with ⟨hv, h0⟩ | ⟨g, cap, cur, hv, _, _, hnc, _⟩
  ·omega
  simp only [Value.slice.injEq] at hv
  omega
 obtain ⟨g, rfl, hg, _, hc, hcell⟩ := row_head h.hv h0
 exact ⟨g, rfl, hg, hc, fun i hi => hcell i _ (by rw [sb, List.getElem?_map, List.getElem?_eq_getElem hi]; rfl)⟩
theorem rnext_any {w : World} {B q : Nat} {v : Value} {st : List Nat} (h : Rm w B q v st) : Calls Tryz.prog 48 #[.pointer (some ⟨q, 0, none⟩)] w fun e w' => e = .returned (.int .i64 ((st.length : Int) + 1)) /\ w = w' := by
 have c := h.cell
 have hl : (st.length : Int) <= 2000000 := by have := h.hl; omega
 obtain ⟨a, cp, rfl, _⟩ := h.shape
 clear h
 go_enter Tryz.func48, Tryz.ntmps48
 go_wp2
 go_ret
 exact ⟨rfl, rfl⟩
theorem rstate_any {w : World} {B q : Nat} {v : Value} {st : List Nat} (h : Rm w B q v st) (x : Int) : Calls Tryz.prog 32 #[.pointer (some ⟨q, 0, none⟩), .int .i64 x] w fun e w' => e = .returned (.int .u8 (stAt st x)) /\ w = w' := by
 have c := h.cell
 obtain ⟨a, cp, rfl, hcp, hh⟩ := h.shape
 by_cases h1 : x < 1
 ·rw [stAt_out (.inl h1)]
  clear h hh
  go_enter Tryz.func32, Tryz.ntmps32
  go_wp2
  go_ret
  exact ⟨by simp, rfl⟩
 by_cases h2 : (st.length : Int) < x
 ·rw [stAt_out (.inr h2)]
  clear h hh
  go_enter Tryz.func32, Tryz.ntmps32
  go_wp2
  go_ret
  exact ⟨by simp, rfl⟩
 obtain ⟨k, hk⟩ : ∃ k : Nat, x = (k : Int) + 1 := ⟨x.toNat - 1, by omega⟩
 have hkl : k < st.length := by omega
 obtain ⟨g, rfl, _, _, hcell⟩ := hh (by omega)
 have hc := hcell k hkl
 have e1 := yqI hkl
 rw [<- hk] at e1
 rw [e1]
 obtain ⟨s, hs⟩ : ∃ s, s = st[k] := ⟨_, rfl⟩
 rw [<- hs] at hc ⊢
 have x0 : (1 : Int) <= x := by omega
 have x2 : x <= 2000000 := by have := h.hl; omega
 have e2 : x - 1 = (k : Int) := by omega
 have x3 : (k : Int) < (st.length : Int) := by omega
 clear h hh hcell e1 hs hk
 go_enter Tryz.func32, Tryz.ntmps32
 go_wp2
 go_ret
 exact ⟨rfl, rfl⟩
theorem Tryz.infoI64 : (Tryz.prog.info? 2).map (fun i => (i.zero, i.size, i.bytes)) = some (some (.int .i64 0), 1, 8) := by kernel_rfl
theorem Tryz.infoU8 : (Tryz.prog.info? 5).map (fun i => (i.zero, i.size, i.bytes)) = some (some (.int .u8 0), 1, 1) := by kernel_rfl
theorem opens_take {st : List Nat} {k : Nat} (h : k < st.length) : xqp (st.take (k + 1)) = if st[k] = 1 then xqp (st.take k) ++ [(k : Int) + 1] else xqp (st.take k) := by
 rw [List.take_succ_eq_append_getElem h, xqp, yqg, <- xqp]
 have e : 1 + (st.take k).length = k + 1 := by simp; omega
 rw [e]
 simp only [xqj]
 split
 ·simp
 simp
theorem ropen_any {w : World} {B q : Nat} {v : Value} {st : List Nat} (h : Rm w B q v st) : Calls Tryz.prog 111 #[.pointer (some ⟨q, 0, none⟩)] w fun e w' => ∃ a c, e = .returned (.slice a (xqp st).length c) /\ w'.ownsRow w.heap.size 2 1 (.slice a (xqp st).length c) (xqp st).length ((xqp st).map encZ) /\ Kept w w' [] := by
 obtain ⟨a, cp, hv, _, hh⟩ := h.shape
 have H := iH h
 have HH := iH hh
 have hl20 := iH h.hl
 have c := h.cell
 rw [hv] at c
 obtain ⟨i0, hi, hz0, hz1, hz2⟩ := info_parts Tryz.infoI64
 have I := iH (And.intro hi (And.intro hz0 (And.intro hz1 hz2)))
 clear h hh hv hi hz0 hz1 hz2
 go_enter Tryz.func111, Tryz.ntmps111
 go_wp2
 go_loopw [3, 4] (fun u i wr => ∃ k : Nat, i = .int .i64 k /\ k <= st.length /\ wr.ownsRow w.heap.size 2 1 u (xqp (st.take k)).length ((xqp (st.take k)).map encZ) /\ Fr w.heap.size [2] w wr) (fun _ i _ => st.length - (intOf i).toNat)
 case atStart => exact ⟨0, rfl, Nat.zero_le _, World.ownsRow_nil _ _ _ _, Fr.refl _ _ _⟩
 case round =>
 obtain ⟨k, rfl, hk, ho, hf⟩ := hrel
 have hkept := (Fm.ofFr hf).kept (Nat.le_refl _)
 have c' := hkept.cell (p := ⟨q, 0, none⟩) (by simp) c
 obtain ⟨ua, uc, rfl⟩ := xqw ho
 have O := iH ho; have F := iH hf
 have hsz := hf.size
 clear ho hf
 by_cases hlt : k < st.length
 ·obtain ⟨g, rfl, _, _, hcell⟩ := HH.out (by omega)
  have hc := hkept.cell (p := ⟨g, k, none⟩) (by simp) (hcell k hlt)
  have ht := opens_take hlt
  have x1 : (k : Int) < (st.length : Int) := by omega
  have x2 : (k : Int) <= 2000000 := by have := hl20.out; omega
  obtain ⟨s, hs⟩ : ∃ s, s = st[k] := ⟨_, rfl⟩
  rw [<- hs] at hc ht
  have T := iH ht
  clear hcell ht hs hkept
  by_cases h1 : s = 1
  ·subst h1
   have T' : Hid (xqp (st.take (k + 1)) = xqp (st.take k) ++ [(k : Int) + 1]) := iH (by have := T.out; rwa [if_pos rfl] at this)
   clear T
   go_wp2_with (at_builtin; refine yqf _ rfl (.tmp 22) (.tmp 25) 34 34 rfl w.heap.size 2 i0 (.int .i64 0) 1 8 Tryz.underlying34 I.out.1 I.out.2.1 I.out.2.2.1 I.out.2.2.2 rfl _ (xqp (st.take k)).length ((xqp (st.take k)).map encZ) rfl ?hown _ 1 [.int .i64 ((k : Int) + 1)] rfl (src_one Tryz.underlying34 wr _ rfl _) ?b1 ?b2 ?base ?next)
   case hown => exact xqW O.out ((Fr.refl 0 [] wr).alloc _) (by simp)
   case b1 => have := yqu (st.take k); have := hl20.out; simp only [maxLen]; simp at *; omega
   case b2 => have := yqu (st.take k); have := hl20.out; simp at *; omega
   case base => simp; omega
   case next =>
   intro v2 w2 ho2 hf2 _
   have F2 := iH ((F.out.trans ((Fr.refl _ _ wr).alloc _)).trans hf2)
   have O2 : Hid (w2.ownsRow w.heap.size 2 1 v2 (xqp (st.take (k + 1))).length ((xqp (st.take (k + 1))).map encZ)) := iH (by
    rw [T'.out, List.map_append, List.length_append]
    exact ho2)
   clear ho2 hf2
   go_wp2
   go_roundw
   case rel => exact ⟨k + 1, by go_num, by omega, O2.out, F2.out⟩
   case measure => simp [intOf]; omega
  have T' : Hid (xqp (st.take (k + 1)) = xqp (st.take k)) := iH (by have := T.out; rwa [if_neg h1] at this)
  have x3 : ((s : Int) == 1) = false := by rw [beq_eq_false_iff_ne]; omega
  clear T
  go_wp2
  go_roundw
  case rel => exact ⟨k + 1, by go_num, by omega, by rw [T'.out]; exact O.out, F.out⟩
  case measure => simp [intOf]; omega
 obtain rfl : k = st.length := by omega
 rw [List.take_length] at O
 have x1 : ¬ (st.length : Int) < (st.length : Int) := by omega
 rw [List.take_length]
 clear hkept
 go_wp2
 go_ret
 exact ⟨ua, uc, rfl, O.out, (Fm.ofFr F.out).kept (Nat.le_refl _)⟩
theorem rbegin_full {w : World} {B q : Nat} {v : Value} {st : List Nat} (h : Rm w B q v st) (hf : 6 <= (xqp st).length ∨ st.length + 1 = 1048576) :
 Calls Tryz.prog 49 #[.pointer (some ⟨q, 0, none⟩)] w fun e w' => e = .returned (.tuple #[.int .i64 0, .int .i64 8]) /\ Kept w w' [] := by
 have ho := iH (ropen_any h)
 have H := iH h
 obtain ⟨n, hn⟩ : ∃ n, (xqp st).length = n := ⟨_, rfl⟩
 obtain ⟨N, hN⟩ : ∃ N : Int, (st.length : Int) + 1 = N := ⟨_, rfl⟩
 rw [hn] at hf ho
 have HN := iH hN
 have hN2 : 6 <= n ∨ N = 1048576 := by omega
 clear h hn hN hf
 by_cases h1 : 6 <= n
 ·clear hN2
  go_enter Tryz.func49, Tryz.ntmps49
  go_wp2_with fail
  refine ho.out.mono ?_
  rintro e w1 ⟨a, c, rfl, _, hk⟩
  have K := iH hk
  clear hk
  go_wp2
  go_ret2
  exact ⟨rfl, K.out⟩
 ·obtain rfl : N = 1048576 := hN2.resolve_left h1
  clear hN2
  go_enter Tryz.func49, Tryz.ntmps49
  go_wp2_with fail
  refine ho.out.mono ?_
  rintro e w1 ⟨a, c, rfl, _, hk⟩
  have K := iH hk
  have hnx := rnext_any (H.out.keep hk)
  rw [HN.out] at hnx
  clear hk
  go_wp2_with (go_at_call 48; refine hnx.mono ?_; rintro e w' ⟨rfl, rfl⟩)
  go_ret2
  exact ⟨rfl, K.out⟩
theorem sb_snoc (st : List Nat) (s : Nat) : sb (st ++ [s]) = sb st ++ [.int .u8 (s : Int)] := by simp [sb]
theorem Rm.app {w w2 : World} {B q : Nat} {v v2 : Value} {st : List Nat} {s : Nat} (h : Rm w B q v st) (hf : Fr B [5] w w2) (ho : w2.ownsRow B 5 1 v2 (st.length + 1) (sb st ++ [.int .u8 (s : Int)])) (hl : st.length + 1 < 1048576) (hs : 1 <= s /\ s <= 3) :
 Rm (w2.setCell ⟨q, 0, none⟩ v2) B q v2 (st ++ [s]) /\ Fr B rts w (w2.setCell ⟨q, 0, none⟩ v2) := by
 have hp := hf.heap h.hp (by decide)
 have f3 : Fr B [106] w2 (w2.setCell ⟨q, 0, none⟩ v2) := (Fr.refl B _ w2).setCell hp (.inr ⟨h.bp, by simp⟩) 0 _
 refine ⟨{ hp := by simpa using xqb hp 0 v2, hv := ?_, bp := h.bp, hl := by simp; omega, hs := ?_ }, (hf.mono (Nat.le_refl _) (by simp [rts])).trans (f3.mono (Nat.le_refl _) (by simp [rts]))⟩
 ·have := xqW ho f3 (by decide)
  rw [sb_snoc, List.length_append]
  exact this
 ·intro t ht
  rcases List.mem_append.1 ht with h1 | h1
  ·exact h.hs t h1
  simp at h1; omega
theorem rbegin_ok {w : World} {B q : Nat} {v : Value} {st : List Nat} (h : Rm w B q v st) (h1 : (xqp st).length < 6) (h2 : st.length + 1 < 1048576) :
 Calls Tryz.prog 49 #[.pointer (some ⟨q, 0, none⟩)] w fun e w' => e = .returned (.tuple #[.int .i64 ((st.length : Int) + 1), .int .i64 0]) /\ ∃ v', Rm w' B q v' (st ++ [1]) /\ Fr B rts w w' := by
 have ho := iH (ropen_any h)
 have H := iH h
 obtain ⟨n, hn⟩ : ∃ n, (xqp st).length = n := ⟨_, rfl⟩
 obtain ⟨N, hN⟩ : ∃ N : Int, (st.length : Int) + 1 = N := ⟨_, rfl⟩
 rw [hn] at h1 ho
 rw [hN]
 have h3 : decide ((1048576 : Int) <= N) = false := by rw [decide_eq_false_iff_not]; omega
 have h4 : ¬ (6 : Int) <= (n : Int) := by omega
 have HN := iH hN
 have H2 := iH h2
 obtain ⟨i0, hi, hz0, hz1, hz2⟩ := info_parts Tryz.infoU8
 have I := iH (And.intro hi (And.intro hz0 (And.intro hz1 hz2)))
 have hsz := h.size
 clear h hn hN h2 hi hz0 hz1 hz2
 go_enter Tryz.func49, Tryz.ntmps49
 go_wp2_with fail
 refine ho.out.mono ?_
 rintro e w1 ⟨a, c, rfl, _, hk⟩
 have K := iH hk
 have R1 := iH (H.out.keep hk)
 have hnx := rnext_any R1.out
 rw [HN.out] at hnx
 have hz1 := hk.size
 have c0 := R1.out.cell
 obtain ⟨a1, cp1, hv, _⟩ := R1.out.shape
 rw [hv] at c0
 have Hv := iH hv
 clear hk hv ho
 go_wp2_with (first
  | (go_at_call 48; refine hnx.mono ?_; rintro e w' ⟨rfl, rfl⟩)
  | (at_builtin; refine yqf _ rfl (.tmp 17) (.tmp 18) 104 104 rfl B 5 i0 (.int .u8 0) 1 1 Tryz.underlying104 I.out.1 I.out.2.1 I.out.2.2.1 I.out.2.2.2 rfl _ st.length (sb st) rfl ?hown _ 1 [.int .u8 1] rfl (src_one Tryz.underlying104 w1 _ rfl _) ?b1 ?b2 ?base ?next))
 case hown => have := R1.out.hv; rw [Hv.out] at this; exact xqW this ((Fr.refl 0 [] w1).alloc _) (by simp)
 case b1 => have := H2.out; simp only [maxLen]; omega
 case b2 => have := H2.out; omega
 case base => simp; omega
 case next =>
  intro v2 w2 ho2 hf2 _
  obtain ⟨a2, cp2, rfl⟩ := xqw ho2
  have ha : Fr B [5] w1 (w1.alloc (.cells #[.int .u8 1] 5)) := (Fr.refl B _ w1).alloc _
  have F2 := iH (ha.trans hf2)
  have O2 := iH ho2
  have P2 := iH (F2.out.heap R1.out.hp (by decide))
  have f2 : w2.frozen? ⟨q, 0, none⟩ = false := frozen_of_row _ _ _ _ _ P2.out
  have c2 : w2.cell? ⟨q, 0, none⟩ = some (.slice a1 st.length cp1) := by rw [cell_of_row w2 q 0 _ _ _ P2.out, Hv.out]; rfl
  have e1 : (st.length : Int) + 1 = N := HN.out
  clear ho2 hf2 ha
  go_wp2
  go_ret2
  obtain ⟨r1, r2⟩ := R1.out.app (s := 1) F2.out O2.out H2.out (by decide)
  exact ⟨by rw [<- HN.out]; rfl, _, r1, (Fr.ofKept K.out B rts).trans r2⟩
theorem rend_bad {w : World} {B q : Nat} {v : Value} {st : List Nat} (h : Rm w B q v st) (x s : Int) (hb : stAt st x ≠ 1) :
 Calls Tryz.prog 52 #[.pointer (some ⟨q, 0, none⟩), .int .i64 x, .int .u8 s] w fun e w' => e = .returned (.int .i64 7) /\ w = w' := by
 have hc := rstate_any h x
 have x3 : ((stAt st x : Int) != 1) = true := by rw [bne_iff_ne]; omega
 clear h hb
 go_enter Tryz.func52, Tryz.ntmps52
 go_wp2_with (go_at_call 32; refine hc.mono ?_; rintro e w' ⟨rfl, rfl⟩)
 go_ret
 exact ⟨rfl, rfl⟩
theorem Rm.put {w : World} {B q g c k s : Nat} {st : List Nat} (h : Rm w B q (.slice (some ⟨g, 0, none⟩) st.length c) st) (hs : 1 <= s /\ s <= 3) :
 Rm (w.setCell ⟨g, k, none⟩ (.int .u8 (s : Int))) B q (.slice (some ⟨g, 0, none⟩) st.length c) (st.set k s) /\ Fr B rts w (w.setCell ⟨g, k, none⟩ (.int .u8 (s : Int))) := by
 rcases h.hv.2 with ⟨hv, _⟩ | ⟨g', cap, cur, hv, hbg, hg, hnc, hcm, hcs, htk⟩
 ·cases hv
 ·simp only [Value.slice.injEq, Option.some.injEq, Addr.mk.injEq] at hv
  obtain ⟨⟨rfl, _⟩, _, rfl⟩ := hv
  have f3 : Fr B [5] w (w.setCell ⟨g, k, none⟩ (.int .u8 (s : Int))) := (Fr.refl B _ w).setCell hg (.inr ⟨hbg, by simp⟩) k _
  refine ⟨{ hp := f3.heap h.hp (by decide), hv := ?_, bp := h.bp, hl := by simpa using h.hl, hs := set_states h.hs hs }, f3.mono (Nat.le_refl _) (by simp [rts])⟩
  rw [List.length_set]
  refine ⟨by simp [sb_length], .inr ⟨g, c, _, rfl, hbg, xqb hg k _, hnc, hcm, by simpa using hcs, ?_⟩⟩
  rw [Array.toList_setIfInBounds, List.take_set, htk, sb, sb, List.map_set]
theorem rend_ok {w : World} {B q : Nat} {v : Value} {st : List Nat} (h : Rm w B q v st) (x : Int) (s : Nat) (hs : 1 <= s /\ s <= 3) (hb : stAt st x = 1) :
 Calls Tryz.prog 52 #[.pointer (some ⟨q, 0, none⟩), .int .i64 x, .int .u8 (s : Int)] w fun e w' => e = .returned (.int .i64 0) /\ Rm w' B q v (st.set (x.toNat - 1) s) /\ Fr B rts w w' := by
 have hc := rstate_any h x
 rw [hb] at hc
 obtain ⟨h1, h2⟩ := stAt_in (by rw [hb]; decide : stAt st x ≠ 0)
 obtain ⟨k, hk⟩ : ∃ k : Nat, x = (k : Int) + 1 := ⟨x.toNat - 1, by omega⟩
 have hkl : k < st.length := by omega
 have ek : x.toNat - 1 = k := by omega
 rw [ek]
 have c0 := h.cell
 obtain ⟨a, cp, rfl, hcp, hh⟩ := h.shape
 obtain ⟨g, rfl, _, ⟨cur, hcur⟩, hcell⟩ := hh (by omega)
 have hc1 := hcell k hkl
 have fz : w.frozen? ⟨g, k, none⟩ = false := frozen_of_row _ _ _ _ _ hcur
 obtain ⟨u, hu⟩ : ∃ u, u = st[k] := ⟨_, rfl⟩
 rw [<- hu] at hc1
 have x0 : (1 : Int) <= x := by omega
 have x2 : x <= 2000000 := by have := h.hl; omega
 have e2 : x - 1 = (k : Int) := by omega
 have x3 : (k : Int) < (st.length : Int) := by omega
 have r := h.put (k := k) hs
 have Rr := iH r
 clear h hb hh hcell hu hk ek hs r hcur
 go_enter Tryz.func52, Tryz.ntmps52
 go_wp2_with (go_at_call 32; refine hc.mono ?_; rintro e w' ⟨rfl, rfl⟩)
 go_ret
 exact ⟨rfl, Rr.out⟩
theorem rnew (w : World) {B : Nat} (hB : B <= w.heap.size) : Rm (w.alloc (.cells #[.slice none 0 0] 106)) B w.heap.size (.slice none 0 0) [] :=
 { hp := heap_alloc_new w _, hv := World.ownsRow_nil _ _ _ _, bp := hB, hl := by decide, hs := by simp }
end Go.Proofs.YticiofkiffgclaaGreat
namespace Go.Proofs.YticiofkiffgclaaGreat
open Go.Shelf Go.RowKit Go.Lib Go.Sort
instance : Inhabited Ev := ⟨Ev.zero⟩
def encE (e : Ev) : List Value := e.cs.toList
theorem yqO (e : Ev) : (encE e).length = 8 := rfl
theorem encE_one (e : Ev) : ∀ v ∈ encE e, v.oneCell' = true := fun v hv => ecs_one [e] v (by simpa [ecs, encE] using hv)
theorem flat_ecs (l : List Ev) : (flatK encE 8 l.toArray).toList = ecs l := by
 apply List.ext_getElem?
 intro t
 by_cases h : t < l.length * 8
 ·have hs : t < (flatK encE 8 l.toArray).size := by rw [size_flatK]; simpa using h
  have e : t = t / 8 * 8 + t % 8 := by omega
  have hi : t / 8 < l.length := by omega
  have hj : t % 8 < 8 := by omega
  have h1 := get_flatK encE 8 l.toArray t (by simpa using h)
  rw [getElem!_pos (flatK encE 8 l.toArray) t hs] at h1
  rw [Array.getElem?_toList, Array.getElem?_eq_getElem hs, h1, getElem!_pos l.toArray (t / 8) (by simpa using hi), getElem!_pos (encE _) (t % 8) (by rw [yqO]; exact hj)]
  have h2 := ecs_get l (t / 8) (t % 8) hi hj
  rw [<- e] at h2
  rw [h2, Array.getElem?_eq_getElem (by rw [Ev.cs_size]; exact hj)]
  simp [encE]
 rw [List.getElem?_eq_none (by rw [Array.length_toList, size_flatK]; simpa using h), List.getElem?_eq_none (by rw [xqE]; omega)]
theorem own_row {w : World} {base g n c : Nat} {e : TypeId} {l : List Ev} (h : OwnE w base e (.slice (some ⟨g, 0, none⟩) n c) l) : RowK encE 8 w g 0 l.toArray := by
 refine ⟨yqO, encE_one, ?_, (h.lt g rfl).2⟩
 intro j hj
 rw [size_flatK] at hj
 have hj' : j < (ecs l).length := by rw [xqE]; simpa using hj
 have e1 : (ecs l)[j]? = some ((flatK encE 8 l.toArray)[j]!) := by
  rw [<- flat_ecs, Array.getElem?_toList, Array.getElem?_eq_getElem (by rw [size_flatK]; exact hj), getElem!_pos _ j (by rw [size_flatK]; exact hj)]
 have := World.ownsRow.cells h (g := g) rfl j _ e1
 rw [Addr.add_lit] at this
 refine ⟨this, ?_⟩
 rcases h.2 with ⟨h1, _⟩ | ⟨g', cap, cur, hv, hb, hg, _⟩
 ·simp at h1
 simp only [Value.slice.injEq, Option.some.injEq, Addr.mk.injEq] at hv
 obtain ⟨⟨rfl, _⟩, _, _⟩ := hv
 exact frozen_of_row _ _ _ _ _ hg
theorem heap_putRow {w : World} {g : Nat} {cur : Array Value} {t : TypeId} {fz : Nat × Nat} (h : w.heap[g]? = some (.cells cur t fz)) (F : Array Value) : (putRow id w g 0 F).heap[g]? = some (.cells (putCells id 0 F cur) t fz) := by
 unfold putRow mapBlock
 rw [Array.getElem?_modify, if_pos rfl, h]
 rfl
theorem heap_putRow_ne {w : World} {g k : Nat} (h : k ≠ g) (F : Array Value) : (putRow id w g 0 F).heap[k]? = w.heap[k]? := by
 unfold putRow mapBlock
 rw [Array.getElem?_modify, if_neg (fun e => h e.symm)]
theorem take_putCells (F cur : Array Value) (h : F.size <= cur.size) : (putCells id 0 F cur).toList.take F.size = F.toList := by
 apply List.ext_getElem?
 intro t
 rw [List.getElem?_take]
 by_cases ht : t < F.size
 ·have hc : t < cur.size := by omega
  rw [if_pos ht, Array.getElem?_toList, Array.getElem?_toList, putCells, Array.getElem?_mapIdx, Array.getElem?_eq_getElem hc, Array.getElem?_eq_getElem ht]
  simp [ht]
 rw [if_neg ht, List.getElem?_eq_none (by rw [Array.length_toList]; omega)]
theorem own_sorted {w w' : World} {base g n c : Nat} {e : TypeId} {l : List Ev} (h : OwnE w base e (.slice (some ⟨g, 0, none⟩) n c) l) {d' : Array Ev} (hs : d'.size = l.length) (S : SWK encE 8 w g 0 d' w') :
 OwnE w' base e (.slice (some ⟨g, 0, none⟩) n c) d'.toList /\ Kept w w' [g] := by
 obtain ⟨m, os, rfl⟩ := S
 have hg0 := (h.lt g rfl).2
 have hF : (flatK encE 8 d').size = l.length * 8 := by rw [size_flatK, hs]
 have hFl : (flatK encE 8 d').toList = ecs d'.toList := by rw [<- flat_ecs]
 unfold sortWorldK putRowK
 constructor
 ·refine ⟨by rw [xqE, Array.length_toList], ?_⟩
  rcases h.2 with ⟨h1, _⟩ | ⟨g', cap, cur, hv, hb, hg, hnc, hcm, hcs, ht⟩
  ·simp at h1
  simp only [Value.slice.injEq, Option.some.injEq, Addr.mk.injEq] at hv
  obtain ⟨⟨rfl, _⟩, rfl, rfl⟩ := hv
  have hl : d'.toList.length = l.length := by rw [Array.length_toList, hs]
  refine .inr ⟨g, c, putCells id 0 (flatK encE 8 d') cur, by rw [hl], hb, ?_, by rw [hl]; exact hnc, hcm, by unfold putCells; simpa using hcs, ?_⟩
  ·have h1 := heap_putRow (w := Sort.ahead w m) (g := g) hg (flatK encE 8 d')
   show (_ ++ os)[g]? = _
   rw [Array.getElem?_append_left (Array.getElem?_eq_some_iff.1 h1).1]
   exact h1
  rw [hl, <- hF, take_putCells _ _ (by rw [hF, hcs]; exact Nat.mul_le_mul_right 8 hnc), hFl]
 ·have sz : (putRow id (Sort.ahead w m) g 0 (flatK encE 8 d')).heap.size = w.heap.size := by unfold putRow mapBlock; rw [Array.size_modify]; rfl
  refine ⟨rfl, rfl, rfl, ?_, fun k hk hn => ?_⟩
  ·show _ <= (_ ++ os).size
   rw [Array.size_append, sz]
   exact Nat.le_add_right _ _
  show (_ ++ os)[k]? = _
  rw [Array.getElem?_append_left (by rw [sz]; exact hk)]
  exact heap_putRow_ne (by simpa using hn) _
def cmpE (x y : Ev) : Int := if x.id < y.id then -1 else if y.id < x.id then 1 else 0
def byId (a b : Ev) : Bool := decide (a.id <= b.id)
theorem xq8 : Tot byId := tot_key (fun e : Ev => e.id)
theorem cmpE_lt (x y : Ev) : cmpE x y < 0 ↔ byId y x = false := by
 unfold cmpE byId
 rw [decide_eq_false_iff_not]
 split
 ·rename_i h; simp; omega
 split <;> simp <;> omega
theorem slE : SL Tryz.prog 8 where
 mixed := by kernel_rfl
 fs := Tryz.func145
 fm := Tryz.func186
 fr := Tryz.func212
 fw := Tryz.func225
 eI := enters_of Tryz.func185 (by kernel_rfl) rfl
 t0 := Tryz.underlying0
 a0 := Tryz.isAgg0
 z0 := Tryz.sizeOf0
 v0 := Tryz.zeroValue0
 t3 := Tryz.underlying3
 a3 := Tryz.isAgg3
 z3 := Tryz.sizeOf3
 v3 := Tryz.zeroValue3
 t4 := Tryz.underlying4
 a4 := Tryz.isAgg4
 z4 := Tryz.sizeOf4
 v4 := Tryz.zeroValue4
 t5 := Tryz.underlying217
 a5 := Tryz.isAgg217
 z5 := Tryz.sizeOf217
 v5 := Tryz.zeroValue217
 t6 := Tryz.underlying57
 a6 := Tryz.isAgg57
 z6 := Tryz.sizeOf57
 v6 := Tryz.zeroValue57
 t7 := Tryz.underlying135
 a7 := Tryz.isAgg135
 z7 := Tryz.sizeOf135
 v7 := Tryz.zeroValue135
 aE := Tryz.isAgg50
 zE := Tryz.sizeOf50
theorem yqE (x : Int) (W : World) : Calls Tryz.prog 146 #[.int .i64 x] W fun e w' => e = .returned (.bool false) /\ w' = W := by
 go_enter Tryz.func146, Tryz.ntmps146
 go_wp2
 go_ret
 simp
theorem compare_any_g6 (x y : Int) (W : World) : Calls Tryz.prog 89 #[.int .i64 x, .int .i64 y] W fun e w' => e = .returned (.int .i64 (if x < y then -1 else if y < x then 1 else 0)) /\ w' = W := by
 by_cases h1 : x < y
 ·rw [if_pos h1]
  go_enter Tryz.func89, Tryz.ntmps89
  go_wp2_with (go_at_call 146; refine (yqE _ _).mono ?_; rintro e w' ⟨rfl, rfl⟩)
  go_ret
  exact ⟨rfl, rfl⟩
 by_cases h2 : y < x
 ·rw [if_neg h1, if_pos h2]
  go_enter Tryz.func89, Tryz.ntmps89
  go_wp2_with (go_at_call 146; refine (yqE _ _).mono ?_; rintro e w' ⟨rfl, rfl⟩)
  go_ret
  exact ⟨rfl, rfl⟩
 rw [if_neg h1, if_neg h2]
 go_enter Tryz.func89, Tryz.ntmps89
 go_wp2_with (go_at_call 146; refine (yqE _ _).mono ?_; rintro e w' ⟨rfl, rfl⟩)
 go_ret
 exact ⟨rfl, rfl⟩
theorem closure_any_g6 (x y : Ev) (W : World) : Calls Tryz.prog 88 #[.agg x.cs, .agg y.cs] W fun e w' => e = .returned (.int .i64 (cmpE x y)) /\ ∃ q os', w' = grow (W.drewN q) os' := by
 have hcon := fun W' => compare_any_g6 x.id y.id W'
 change ∀ W', Calls _ _ _ _ fun e w' => e = .returned (.int .i64 (cmpE x y)) /\ w' = W' at hcon
 generalize cmpE x y = r at hcon ⊢
 unfold Ev.cs
 go_enter Tryz.func88, Tryz.ntmps88
 go_wp2_with (go_at_call 89; refine (hcon _).mono ?_; rintro e w' ⟨rfl, rfl⟩)
 go_ret
 exact ⟨rfl, 0, _, by rw [alloc_eq_grow, alloc_eq_grow, grow_grow]; rfl⟩
theorem cmpLays (g off size : Nat) (w : World) : CmpLays Tryz.prog 88 #[] encE 8 cmpE g off size w :=
 fun _ _ _ _ x y => closure_any_g6 x y _
theorem insE {w0 : World} {blk off : Nat} {d0 : Array Ev} (R : RowK encE 8 w0 blk off d0) (cap : Nat) : InsAt Tryz.prog encE 8 w0 blk off d0 byId 88 #[] cap := by
 intro A M B d w hd hs S hsz sz a b hz ha hb
 have hab : A.length + M.length <= d.size := by rw [<- Array.length_toList, hd]; simp
 have h := AnyQ.insertionSortCmpFunc Tryz.insE 8 Tryz.isAgg50 Tryz.sizeOf50 encE yqO encE_one cmpE 88 #[] blk off cap a b d w (enters_of Tryz.func88 (by kernel_rfl) rfl) (cmpLays _ _ _ _) (S.holds R.hblk R.hH hs) (S.lt R.hblk) (by omega) (by omega) hsz
 rw [hz]
 refine Calls.mono h ?_
 rintro e w' ⟨rfl, n, os, rfl⟩
 have e1 : ltOf cmpE = ltB byId := by
  funext x y
  have := cmpE_lt x y
  unfold ltOf ltB
  cases h : byId y x with
  | false => simp [this, h]
  | true => simp [this, h]
 rw [e1, ha, hb, ha]
 exact ⟨rfl, _, yqa xq8 hd, S.on R.hblk n _ os (yqd (by rw [yqa xq8 hd, hd]; simp [xqs]))⟩
theorem Fo.ofKept1 {w w' : World} {g : Nat} (h : Kept w w' [g]) : Fo (fun k => k = g) w w' := ⟨h.os, h.tape, h.output, h.size, fun k hk hn => h.block k hk (by simpa using hn)⟩
theorem ins_nil (W : World) : Calls Tryz.prog 185 #[.slice none 0 0, .int .i64 0, .int .i64 0, .func (.func 88) #[] #[]] W fun e w' => e = .returned (.tuple #[]) /\ w' = W := by
 go_enter Tryz.func185, Tryz.ntmps185
 go_wp2
 go_loopg [8] 0 (fun kx s8 wr => s8 = .int .i64 1 /\ wr = W)
 case atStart => exact ⟨rfl, rfl⟩
 case round =>
 obtain ⟨rfl, rfl⟩ := hrel
 go_wp2
 go_end0
 exact ⟨rfl, rfl⟩
theorem stable_nil (W : World) : Calls Tryz.prog 145 #[.slice none 0 0, .int .i64 0, .func (.func 88) #[] #[]] W fun e w' => e = .returned (.tuple #[]) /\ w' = W := by
 go_enter Tryz.func145, Tryz.ntmps145
 go_wp2
 go_loopg [7, 8] 0 (fun kx s7 s8 wr => s7 = .int .i64 0 /\ s8 = .int .i64 20 /\ wr = W)
 case atStart => exact ⟨rfl, rfl, rfl⟩
 case round =>
 obtain ⟨rfl, rfl, rfl⟩ := hrel
 go_wp2_with (go_at_call 185; refine (ins_nil _).mono ?_; rintro e w' ⟨rfl, rfl⟩)
 go_loopg [6] 0 (fun kx s6 wr => s6 = .int .i64 20 /\ wr = w')
 case atStart => exact ⟨rfl, rfl⟩
 case round =>
 obtain ⟨rfl, rfl⟩ := hrel
 go_wp2
 go_end0
 exact ⟨rfl, rfl⟩
theorem sort_any {W : World} {base : Nat} {V : Value} {l : List Ev} (h : OwnE W base 50 V l) (hl : l.length < 1152921504606846976) :
 Calls Tryz.prog 87 #[V, .func (.func 88) #[] #[]] W fun e w' => e = .returned (.tuple #[]) /\ OwnE w' base 50 V (srt byId l) /\ Fo (fun k => V.ownBlock = some k) W w' := by
 rcases h.2 with ⟨rfl, hn⟩ | ⟨g, cap, cur, rfl, hb, hg, hnc, hcm, hcs, ht⟩
 ·have : l = [] := List.eq_nil_of_length_eq_zero hn
  subst this
  go_enter Tryz.func87, Tryz.ntmps87
  go_wp2_with (go_at_call 145; refine (stable_nil _).mono ?_; rintro e w' ⟨rfl, rfl⟩)
  go_end0
  exact ⟨rfl, h, Fo.refl _ _⟩
 ·have R := own_row h
  have hc := stable_any slE R xq8 cmpE_lt 88 #[] (enters_of Tryz.func88 (by kernel_rfl) rfl) (cmpLays _ _ _ _) cap (insE R cap) l.toArray W rfl (SWK.start R.hH) (by simpa using hl) l.length (by simp)
  have HC := iH hc
  have H := iH h
  clear hc h hb hg hnc hcm hcs ht R
  generalize hn : l.length = n at HC
  have HN := iH hn
  clear hn hl
  go_enter Tryz.func87, Tryz.ntmps87
  go_wp2_with (go_at_call 145; refine HC.out.mono ?_; rintro e w' ⟨rfl, d', hd', S'⟩)
  go_end0
  have hn := HN.out
  subst hn
  have hs : d'.size = l.length := by rw [<- Array.length_toList, hd', xqs]
  obtain ⟨r1, r2⟩ := own_sorted H.out hs S'
  rw [hd'] at r1
  refine ⟨rfl, r1, ?_⟩
  have := Fo.ofKept1 r2
  exact this.mono (fun k hk => by subst hk; rfl)
end Go.Proofs.YticiofkiffgclaaGreat
