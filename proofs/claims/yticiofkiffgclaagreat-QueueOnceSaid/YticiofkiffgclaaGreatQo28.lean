/-
  SoiB, SojB, Bb, Bc, Bd, Be in one text.
-/
import Derived.Test.YticiofkiffgclaaGreatQo17
import Derived.Test.YticiofkiffgclaaGreatQo12
import Derived.Test.YticiofkiffgclaaGreatShelfS
import Derived.Test.YticiofkiffgclaaGreatQo7
import Derived.Test.YticiofkiffgclaaGreatQo1
import Derived.Test.YticiofkiffgclaaGreatQo21
import Derived.Test.YticiofkiffgclaaGreatQo20
import Derived.Test.YticiofkiffgclaaGreatQo18
import Derived.Deep.Slices
import Derived.Deep.Fields
import Derived.Deep.Grids
import Derived.ChangeSame
import Derived.LoopTactic
import Derived.ProofKit
import Derived.OpenShut
import Derived.ChangeOld
import Derived.Below
import Derived.Laws.StructEq
import Derived.Deep.LoopGhost
import Derived.BigQuiet
import Derived.Deep.DeepCutAuto
import Derived.Lib.SliceRun
import Derived.Test.YticiofkiffgclaaGreatQo16
import Derived.Test.YticiofkiffgclaaGreatQo14
import Derived.Test.YticiofkiffgclaaGreatQo3
import Derived.Deep.RegionHeld3
namespace Go.Proofs.YticiofkiffgclaaGreat
open Go.Shelf Go.RowKit Go.Lib Go.Sort

instance : Inhabited Ev := ⟨Ev.zero⟩

set_option maxHeartbeats 1000000 in
theorem compare_any_g8 (x y : Int) (W : World) : Calls Tryz.prog 89 #[.int .i64 x, .int .i64 y] W fun e w' => e = .returned (.int .i64 (if x < y then -1 else if y < x then 1 else 0)) ∧ w' = W := by
  by_cases h1 : x < y
  · rw [if_pos h1]
    go_enter Tryz.func89, Tryz.ntmps89
    go_wp2_with (go_at_call 146; refine (isNaN_any _ _).mono ?_; rintro e w' ⟨rfl, rfl⟩)
    go_ret
    exact ⟨rfl, rfl⟩
  · by_cases h2 : y < x
    · rw [if_neg h1, if_pos h2]
      go_enter Tryz.func89, Tryz.ntmps89
      go_wp2_with (go_at_call 146; refine (isNaN_any _ _).mono ?_; rintro e w' ⟨rfl, rfl⟩)
      go_ret
      exact ⟨rfl, rfl⟩
    · rw [if_neg h1, if_neg h2]
      go_enter Tryz.func89, Tryz.ntmps89
      go_wp2_with (go_at_call 146; refine (isNaN_any _ _).mono ?_; rintro e w' ⟨rfl, rfl⟩)
      go_ret
      exact ⟨rfl, rfl⟩

set_option maxHeartbeats 1000000 in
theorem closure_any_g8 (x y : Ev) (W : World) : Calls Tryz.prog 152 #[.agg x.cs, .agg y.cs] W fun e w' => e = .returned (.int .i64 (cmpE x y)) ∧ ∃ q os', w' = grow (W.drewN q) os' := by
  have hcon := fun W' => compare_any_g8 x.id y.id W'
  change ∀ W', Calls _ _ _ _ fun e w' => e = .returned (.int .i64 (cmpE x y)) ∧ w' = W' at hcon
  generalize cmpE x y = r at hcon ⊢
  unfold Ev.cs
  go_enter Tryz.func152, Tryz.ntmps152
  go_wp2_with (go_at_call 89; refine (hcon _).mono ?_; rintro e w' ⟨rfl, rfl⟩)
  go_ret
  exact ⟨rfl, 0, _, by rw [alloc_eq_grow, alloc_eq_grow, grow_grow]; rfl⟩

theorem cmpLays_g8 (g off size : Nat) (w : World) : CmpLays Tryz.prog 152 #[] encE 8 cmpE g off size w :=
  fun _ _ _ _ x y => closure_any_g8 x y _

theorem insE_g8 {w0 : World} {blk off : Nat} {d0 : Array Ev} (R : RowK encE 8 w0 blk off d0) (cap : Nat) : InsAt Tryz.prog encE 8 w0 blk off d0 byId 152 #[] cap := by
  intro A M B d w hd hs S hsz sz a b hz ha hb
  have hab : A.length + M.length ≤ d.size := by rw [← Array.length_toList, hd]; simp
  have h := AnyQ.insertionSortCmpFunc Tryz.insE 8 Tryz.isAgg50 Tryz.sizeOf50 encE encE_length encE_one cmpE 152 #[] blk off cap a b d w (enters_of Tryz.func152 (by kernel_rfl) rfl) (cmpLays_g8 _ _ _ _) (S.holds R.hblk R.hH hs) (S.lt R.hblk) (by omega) (by omega) hsz
  rw [hz]
  refine Calls.mono h ?_
  rintro e w' ⟨rfl, n, os, rfl⟩
  have e1 : ltOf cmpE = ltB byId := by
    funext x y
    have := cmpE_lt x y
    unfold ltOf ltB
    cases h : byId y x with
    | false => simp [this, h]
    | true => simp [this, h]
  rw [e1, ha, hb, ha]
  exact ⟨rfl, _, insertion_list tot_byId hd, S.on R.hblk n _ os (size_of_list (by rw [insertion_list tot_byId hd, hd]; simp [srt_length]))⟩

end Go.Proofs.YticiofkiffgclaaGreat

namespace Go.Proofs.YticiofkiffgclaaGreat
open Go.Shelf Go.RowKit Go.Lib Go.Sort

set_option maxHeartbeats 1000000 in
theorem ins_nil_g8 (W : World) : Calls Tryz.prog 185 #[.slice none 0 0, .int .i64 0, .int .i64 0, .func (.func 152) #[] #[]] W fun e w' => e = .returned (.tuple #[]) ∧ w' = W := by
  go_enter Tryz.func185, Tryz.ntmps185
  go_wp2
  go_loopg [8] 0 (fun kx s8 wr => s8 = .int .i64 1 ∧ wr = W)
  case atStart => exact ⟨rfl, rfl⟩
  case round =>
    obtain ⟨rfl, rfl⟩ := hrel
    go_wp2
    go_end0
    exact ⟨rfl, rfl⟩

set_option maxHeartbeats 1000000 in
theorem stable_nil_g8 (W : World) : Calls Tryz.prog 145 #[.slice none 0 0, .int .i64 0, .func (.func 152) #[] #[]] W fun e w' => e = .returned (.tuple #[]) ∧ w' = W := by
  go_enter Tryz.func145, Tryz.ntmps145
  go_wp2
  go_loopg [7, 8] 0 (fun kx s7 s8 wr => s7 = .int .i64 0 ∧ s8 = .int .i64 20 ∧ wr = W)
  case atStart => exact ⟨rfl, rfl, rfl⟩
  case round =>
    obtain ⟨rfl, rfl, rfl⟩ := hrel
    go_wp2_with (go_at_call 185; refine (ins_nil_g8 _).mono ?_; rintro e w' ⟨rfl, rfl⟩)
    go_loopg [6] 0 (fun kx s6 wr => s6 = .int .i64 20 ∧ wr = w')
    case atStart => exact ⟨rfl, rfl⟩
    case round =>
      obtain ⟨rfl, rfl⟩ := hrel
      go_wp2
      go_end0
      exact ⟨rfl, rfl⟩

set_option maxHeartbeats 1000000 in
theorem sort_any_g8 {W : World} {base : Nat} {V : Value} {l : List Ev} (h : OwnE W base 50 V l) (hl : l.length < 1152921504606846976) :
    Calls Tryz.prog 87 #[V, .func (.func 152) #[] #[]] W fun e w' => e = .returned (.tuple #[]) ∧ OwnE w' base 50 V (srt byId l) ∧ Fo (fun k => V.ownBlock = some k) W w' := by
  rcases h.2 with ⟨rfl, hn⟩ | ⟨g, cap, cur, rfl, hb, hg, hnc, hcm, hcs, ht⟩
  · have : l = [] := List.eq_nil_of_length_eq_zero hn
    subst this
    go_enter Tryz.func87, Tryz.ntmps87
    go_wp2_with (go_at_call 145; refine (stable_nil_g8 _).mono ?_; rintro e w' ⟨rfl, rfl⟩)
    go_end0
    exact ⟨rfl, h, Fo.refl _ _⟩
  · have R := own_row h
    have hc := stable_any slE R tot_byId cmpE_lt 152 #[] (enters_of Tryz.func152 (by kernel_rfl) rfl) (cmpLays_g8 _ _ _ _) cap (insE_g8 R cap) l.toArray W rfl (SWK.start R.hH) (by simpa using hl) l.length (by simp)
    have HC := Lib.hid hc
    have H := Lib.hid h
    clear hc h hb hg hnc hcm hcs ht R
    generalize hn : l.length = n at HC
    have HN := Lib.hid hn
    clear hn hl
    go_enter Tryz.func87, Tryz.ntmps87
    go_wp2_with (go_at_call 145; refine HC.out.mono ?_; rintro e w' ⟨rfl, d', hd', S'⟩)
    go_end0
    have hn := HN.out
    subst hn
    have hs : d'.size = l.length := by rw [← Array.length_toList, hd', srt_length]
    obtain ⟨r1, r2⟩ := own_sorted H.out hs S'
    rw [hd'] at r1
    refine ⟨rfl, r1, ?_⟩
    have := Fo.ofKept1 r2
    exact this.mono (fun k hk => by subst hk; rfl)

end Go.Proofs.YticiofkiffgclaaGreat

namespace Go.Proofs.YticiofkiffgclaaGreat
set_option linter.unusedVariables false
open Go.RowKit

variable {w w' : World} {base : Nat} {l : List Ev}

theorem Tryz.infoEv_g8 : (Tryz.prog.info? 50).map (fun i => (i.zero, i.size, i.bytes)) = some (some (.agg #[.int .i64 0, .int .i64 0, .string ByteArray.empty, .int .i64 0, .int .i64 0, .int .u8 0, .int .i64 0, .string ByteArray.empty]), 8, 80) := by kernel_rfl

theorem ev_frozen {w : World} {g : Nat} {cs : Array Value} {T : TypeId} (h : w.heap[g]? = some (.cells cs T (0, 0))) : w.frozen? ⟨g, 0, none⟩ = false ∧ w.frozen? ⟨g, 1, none⟩ = false ∧ w.frozen? ⟨g, 2, none⟩ = false ∧ w.frozen? ⟨g, 3, none⟩ = false ∧ w.frozen? ⟨g, 4, none⟩ = false ∧ w.frozen? ⟨g, 5, none⟩ = false ∧ w.frozen? ⟨g, 6, none⟩ = false ∧ w.frozen? ⟨g, 7, none⟩ = false :=
  ⟨frozen_of_row _ _ _ _ _ h, frozen_of_row _ _ _ _ _ h, frozen_of_row _ _ _ _ _ h, frozen_of_row _ _ _ _ _ h, frozen_of_row _ _ _ _ _ h, frozen_of_row _ _ _ _ _ h, frozen_of_row _ _ _ _ _ h, frozen_of_row _ _ _ _ _ h⟩

end Go.Proofs.YticiofkiffgclaaGreat

namespace Go.Proofs.YticiofkiffgclaaGreat
set_option linter.unusedVariables false
open Go.RowKit

theorem ret_bool {a b : Bool} (h : a = b) : Ending.returned (.bool a) = .returned (.bool b) := by rw [h]

def dueB (o b : ByteArray) : Bool := o.toList.isEmpty || o.toList == b.toList

theorem dueB_empty {o : ByteArray} (h : o.toList = []) (b : ByteArray) : dueB o b = true := by simp [dueB, h]

set_option maxHeartbeats 400000 in
set_option maxRecDepth 100000 in
theorem due_any (e : Ev) (b : ByteArray) (w : World) :
    Calls Tryz.prog 150 #[.agg e.cs, .string b] w fun en w' => en = .returned (.bool (dueB e.ow b)) ∧ Kept w w' [] := by
  change Calls Tryz.prog 150 #[.agg #[.int .i64 e.id, .int .i64 e.tx, .string e.ow, .int .i64 e.tr, .int .i64 e.tb, .int .u8 e.kd, .int .i64 e.key, .string e.t], .string b] w _
  go_enter Tryz.func150, Tryz.ntmps150
  go_wp2
  · go_ret
    exact ⟨ret_bool (dueB_empty (by assumption) b).symm, (Kept.refl w []).alloc _⟩
  · go_ret
    exact ⟨rfl, (Kept.refl w []).alloc _⟩

end Go.Proofs.YticiofkiffgclaaGreat

namespace Go.Proofs.YticiofkiffgclaaGreat
set_option linter.unusedVariables false
open Go.RowKit Go.Maps

def Man (w : World) (u : Value) (st : List Nat) : Prop :=
  ∀ (x : Int) (W : World), (Lit.int .i64 x).wf = true → Kept w W [] → Calls Tryz.prog 19 #[u, .int .i64 x] W fun e w' => e = .returned (.int .u8 (stAt st x)) ∧ W = w'
theorem Man.keep {w w' : World} {u : Value} {st : List Nat} (h : Man w u st) (k : Kept w w' []) : Man w' u st := fun x W hx hk => h x W hx (k.trans hk (by simp))
theorem Mg.man {w : World} {B p b : Nat} {v : Value} {st : List Nat} (h : Mg w B p b v st) : Man w (.pointer (some ⟨p, 0, .none⟩)) st := fun x W hx hk => mstate_any (h.keep hk) x hx

def betw (A : Int) (la : List Int) (B : Int) (lb : List Int) (x : Int) : Bool := seesB B lb x && !seesB A la x

set_option maxHeartbeats 400000 in
theorem between_any (x A B : Int) (va vb : Value) (la lb : List Int) (w : World) (ha : RdI w va la) (hb : RdI w vb lb) :
    Calls Tryz.prog 151 #[.int .i64 x, .agg #[.int .i64 A, va], .agg #[.int .i64 B, vb]] w fun e w' => e = .returned (.bool (betw A la B lb x)) ∧ Kept w w' [] := by
  have Ha := Lib.hid ha; have Hb := Lib.hid hb
  obtain ⟨a, c, rfl, _, _, _, _⟩ := ha
  obtain ⟨b, d, rfl, _, _, _, _⟩ := hb
  obtain ⟨p, hp⟩ : ∃ p, seesB B lb x = p := ⟨_, rfl⟩
  obtain ⟨q, hq⟩ : ∃ q, seesB A la x = q := ⟨_, rfl⟩
  have HP := Lib.hid hp; have HQ := Lib.hid hq
  have R : RowKit.Hid (betw A la B lb x = (p && !q)) := Lib.hid (by unfold betw; rw [hp, hq])
  rw [R.out]
  have h1 : ∀ W, Kept w W [] → Calls Tryz.prog 187 #[.agg #[.int .i64 B, .slice b lb.length d], .int .i64 x] W fun e w' => e = .returned (.bool p) ∧ Kept W w' [] := fun W k => by
    have := sees_any B x _ lb W (Hb.out.keep k)
    rw [HP.out] at this
    exact this
  have h2 : ∀ W, Kept w W [] → Calls Tryz.prog 187 #[.agg #[.int .i64 A, .slice a la.length c], .int .i64 x] W fun e w' => e = .returned (.bool q) ∧ Kept W w' [] := fun W k => by
    have := sees_any A x _ la W (Ha.out.keep k)
    rw [HQ.out] at this
    exact this
  have H1 := Lib.hid h1; have H2 := Lib.hid h2
  clear h1 h2 hp hq
  obtain ⟨W1, hW1⟩ : ∃ W1, W1 = (w.alloc (.cells #[.int .i64 A, .slice a la.length c] 36)).alloc (.cells #[.int .i64 B, .slice b lb.length d] 36) := ⟨_, rfl⟩
  have k1 : Kept w W1 [] := by rw [hW1]; exact ((Kept.refl w []).alloc _).alloc _
  have g1 : W1.heap[w.heap.size]? = some (.cells #[.int .i64 A, .slice a la.length c] 36 (0, 0)) := by rw [hW1]; exact ((Kept.refl _ []).alloc _).heap (by simp) (heap_alloc_new w _)
  have HW := Lib.hid hW1; have K1 := Lib.hid k1; have G1 := Lib.hid g1
  clear hW1 k1 g1
  cases p
  · go_enter Tryz.func151, Tryz.ntmps151
    go_wp2_with fail
    rw [← HW.out]
    refine (H1.out _ K1.out).mono ?_
    rintro e w2 ⟨rfl, k2⟩
    go_wp2
    go_ret
    exact ⟨rfl, K1.out.trans k2 (by simp)⟩
  · go_enter Tryz.func151, Tryz.ntmps151
    go_wp2_with fail
    rw [← HW.out]
    refine (H1.out _ K1.out).mono ?_
    rintro e w2 ⟨rfl, k2⟩
    have K2 := Lib.hid k2
    obtain ⟨c0, c1⟩ := two_cells (k2.heap (by simp) G1.out)
    clear k2
    go_wp2_with fail
    refine (H2.out _ (K1.out.trans K2.out (by simp))).mono ?_
    rintro e w3 ⟨rfl, k3⟩
    have K3 := Lib.hid k3
    clear k3
    go_wp2
    go_ret
    exact ⟨by simp, K1.out.trans (K2.out.trans K3.out (by simp)) (by simp)⟩

end Go.Proofs.YticiofkiffgclaaGreat

namespace Go.Proofs.YticiofkiffgclaaGreat
set_option linter.unusedVariables false
open Go.RowKit Go.Maps

def told (st : List Nat) (A : Int) (la : List Int) (B : Int) (lb : List Int) (o : ByteArray) (e : Ev) : Bool := dueB e.ow o && (stAt st e.tx == 2 && betw A la B lb e.tx)

theorem filter_take {P : Ev → Bool} {m : List Ev} {i : Nat} {x : Ev} (h : m[i]? = some x) : (m.take (i + 1)).filter P = (m.take i).filter P ++ (if P x then [x] else []) := by
  rw [List.take_add_one, h, List.filter_append]
  congr 1
  simp only [Option.toList_some, List.filter_cons, List.filter_nil]

theorem filter_len {P : Ev → Bool} (m : List Ev) (i : Nat) : ((m.take i).filter P).length ≤ m.length := Nat.le_trans (List.length_filter_le _ _) (by rw [List.length_take]; omega)

theorem Kept.fo_g8 {a w w' : World} {O : Nat → Prop} (h : Kept a w []) (f : Fo O w w') (hO : ∀ k, O k → a.heap.size ≤ k) : Kept a w' [] :=
  ⟨f.os.trans h.os, f.tape.trans h.tape, f.output.trans h.output, Nat.le_trans h.size f.size, fun k hk _ => (f.block k (Nat.lt_of_lt_of_le hk h.size) (fun o => by have := hO k o; omega)).trans (h.block k hk (by simp))⟩

set_option maxHeartbeats 2000000 in
set_option maxRecDepth 100000 in
theorem bof_any {w : World} {v u : Value} {m : List Ev} {st : List Nat} {A B : Int} {va vb : Value} {la lb : List Int} (o : ByteArray) (hm : RdE w v m) (hl : m.length < 1000000) (hM : Man w u st) (ha : RdI w va la) (hb : RdI w vb lb) (hx : ∀ e ∈ m, (Lit.int .i64 e.tx).wf = true) :
    Calls Tryz.prog 95 #[v, u, .agg #[.int .i64 A, va], .agg #[.int .i64 B, vb], .string o] w fun e w' => ∃ v', e = .returned v' ∧ OwnE w' w.heap.size 50 v' (srt byId (m.filter (told st A la B lb o))) ∧ Kept w w' [] := by
  obtain ⟨a, ca, rfl⟩ := hm.shape3
  have HM := Lib.hid hm; have HA := Lib.hid ha; have HB := Lib.hid hb; have MM := Lib.hid hM; have HX := Lib.hid hx
  obtain ⟨aa, ac, rfl, _, _, _, _⟩ := ha
  obtain ⟨ba, bc, rfl, _, _, _, _⟩ := hb
  obtain ⟨n, hn⟩ : ∃ n, n = m.length := ⟨_, rfl⟩
  have HN := Lib.hid hn
  rw [← hn] at hl ⊢
  obtain ⟨W1, hW1⟩ : ∃ W1, W1 = (w.alloc (.cells #[.int .i64 A, .slice aa la.length ac] 36)).alloc (.cells #[.int .i64 B, .slice ba lb.length bc] 36) := ⟨_, rfl⟩
  have hz : (w.alloc (.cells #[.int .i64 A, .slice aa la.length ac] 36)).heap.size = w.heap.size + 1 := by simp
  have k1 : Kept w W1 [] := by rw [hW1]; exact ((Kept.refl w []).alloc _).alloc _
  have g1 : W1.heap[w.heap.size]? = some (.cells #[.int .i64 A, .slice aa la.length ac] 36 (0, 0)) := by rw [hW1]; exact ((Kept.refl _ []).alloc _).heap (by simp) (heap_alloc_new w _)
  have g2 : W1.heap[w.heap.size + 1]? = some (.cells #[.int .i64 B, .slice ba lb.length bc] 36 (0, 0)) := by rw [hW1, ← hz]; exact heap_alloc_new _ _
  have zW : W1.heap.size = w.heap.size + 2 := by rw [hW1]; simp
  have HW := Lib.hid hW1; have K1 := Lib.hid k1; have G1 := Lib.hid g1; have G2 := Lib.hid g2; have ZW := Lib.hid zW
  obtain ⟨i0, hi0, hz0, hz1, hzb⟩ := info_parts Tryz.infoEv_g8
  have I := Lib.hid (And.intro hi0 (And.intro hz0 (And.intro hz1 hzb)))
  clear hm hn hW1 hz k1 g1 g2 zW hM hx hi0 hz0 hz1 hzb
  go_enter Tryz.func95, Tryz.ntmps95
  go_upto_region 1 with fail
  rw [← HW.out]
  go_wp2
  go_loopg [11, 16] n (fun kx s11 s16 wr => ∃ (i : Nat) (cp : Nat) (g : Option Addr) (l : List Ev), s11 = .slice g l.length cp ∧ s16 = .int .i64 i ∧ i ≤ n ∧ n - i ≤ kx ∧ RowKit.Hid (l = (m.take i).filter (told st A la B lb o) ∧ OwnE wr W1.heap.size 50 (.slice g l.length cp) l ∧ Kept W1 wr []))
  case atStart => exact ⟨0, 0, none, [], rfl, rfl, by omega, by omega, rfl, OwnE.nil _ _ _, Kept.refl _ _⟩
  case round =>
    obtain ⟨i, cp, g, l, rfl, rfl, hi, hkx, HS⟩ := hrel
    have hll : l.length < 1000000 := by have := filter_len (P := told st A la B lb o) m i; rw [← HS.out.1, ← HN.out] at this; omega
    by_cases hlt : i < n
    · have x1 : (i : Int) < (n : Int) := by omega
      obtain ⟨x, hx⟩ : ∃ r, m[i]? = some r := ⟨_, List.getElem?_eq_getElem (by rw [← HN.out]; exact hlt)⟩
      have em := HM.out.kept (K1.out.trans HS.out.2.2 (by simp)) (by simp)
      rw [← HN.out] at em
      obtain ⟨bm, om, rfl, f⟩ := em.eight hx
      have hwf : (Lit.int .i64 x.tx).wf = true := HX.out x (List.mem_of_getElem? hx)
      obtain ⟨b0, b1, b2, b3, b4, b5, b6, b7⟩ := x
      obtain ⟨p0, p1, p2, p3, p4, p5, p6, p7⟩ := f
      simp only at p0 p1 p2 p3 p4 p5 p6 p7 hwf
      have HX1 := Lib.hid hx; have HF := Lib.hid hwf
      obtain ⟨W2, hW2⟩ : ∃ W2, W2 = wr.alloc (.cells #[.int .i64 b0, .int .i64 b1, .string b2, .int .i64 b3, .int .i64 b4, .int .u8 b5, .int .i64 b6, .string b7] 50) := ⟨_, rfl⟩
      have k2 : Kept wr W2 [] := by rw [hW2]; exact (Kept.refl wr []).alloc _
      have gz : W2.heap[wr.heap.size]? = some (.cells #[.int .i64 b0, .int .i64 b1, .string b2, .int .i64 b3, .int .i64 b4, .int .u8 b5, .int .i64 b6, .string b7] 50 (0, 0)) := by rw [hW2]; exact heap_alloc_new wr _
      have HW2 := Lib.hid hW2; have K2 := Lib.hid k2; have GZ := Lib.hid gz
      obtain ⟨d0, hd0⟩ : ∃ d, dueB b2 o = d := ⟨_, rfl⟩
      obtain ⟨s0, hs0⟩ : ∃ s, stAt st b1 = s := ⟨_, rfl⟩
      obtain ⟨r0, hr0⟩ : ∃ r, betw A la B lb b1 = r := ⟨_, rfl⟩
      have EN : RowKit.Hid (∀ {q : Bool}, m[i]? = some ⟨b0, b1, b2, b3, b4, b5, b6, b7⟩ → (d0 && (s0 == 2 && r0)) = q → (m.take (i + 1)).filter (told st A la B lb o) = (m.take i).filter (told st A la B lb o) ++ (if q then [⟨b0, b1, b2, b3, b4, b5, b6, b7⟩] else [])) := Lib.hid (fun h1 h2 => by
        rw [filter_take h1, ← h2]; simp only [told, hd0, hs0, hr0])
      have cd := Lib.hid (fun W => due_any ⟨b0, b1, b2, b3, b4, b5, b6, b7⟩ o W)
      have cs := Lib.hid (fun W (k : Kept wr W []) => MM.out b1 W HF.out (K1.out.trans (HS.out.2.2.trans k (by simp)) (by simp)))
      have cb := Lib.hid (fun W (k : Kept wr W []) => between_any b1 A B _ _ la lb W (HA.out.keep (K1.out.trans (HS.out.2.2.trans k (by simp)) (by simp))) (HB.out.keep (K1.out.trans (HS.out.2.2.trans k (by simp)) (by simp))))
      simp only [hd0, hs0, hr0, Ev.cs] at cd cs cb
      obtain ⟨q0, q1, q2, q3, q4, q5, q6, q7⟩ := ev_cells gz
      clear hx em hwf hW2 k2 gz hd0 hs0 hr0
      go_upto_region 5 with fail
      rw [← HW2.out]
      clear p0 p1 p2 p3 p4 p5 p6 p7
      go_wp2_with fail
      refine (cd.out W2).mono ?_
      rintro e w3 ⟨rfl, k3⟩
      have K3 := Lib.hid (K2.out.trans k3 (by simp))
      have G3 := Lib.hid (k3.heap (by simp) GZ.out)
      clear k3 q0 q1 q2 q3 q4 q5 q6 q7
      obtain ⟨q0, q1, q2, q3, q4, q5, q6, q7⟩ := ev_cells G3.out
      cases d0
      · go_wp2
        go_roundg (n - (i + 1))
        case measure => omega
        case rel => exact ⟨i + 1, cp, g, l, rfl, by go_num, by omega, by omega, by rw [EN.out (q := false) HX1.out (rfl), ← HS.out.1]; simp, HS.out.2.1.kept K3.out (by simp), HS.out.2.2.trans K3.out (by simp)⟩
      · go_wp2_with fail
        refine (cs.out w3 K3.out).mono ?_
        rintro e w4 ⟨rfl, rfl⟩
        by_cases hs2 : s0 = 2
        · subst hs2
          obtain ⟨y0, y1⟩ := two_cells ((HS.out.2.2.trans K3.out (by simp)).heap (by simp) G1.out)
          obtain ⟨y2, y3⟩ := two_cells ((HS.out.2.2.trans K3.out (by simp)).heap (by simp) G2.out)
          go_wp2_with fail
          refine (cb.out w3 K3.out).mono ?_
          rintro e w5 ⟨rfl, k5⟩
          have K5 := Lib.hid (K3.out.trans k5 (by simp))
          have G5 := Lib.hid (k5.heap (by simp) G3.out)
          clear k5 q0 q1 q2 q3 q4 q5 q6 q7 y0 y1 y2 y3
          obtain ⟨q0, q1, q2, q3, q4, q5, q6, q7⟩ := ev_cells G5.out
          cases r0
          · go_wp2
            go_roundg (n - (i + 1))
            case measure => omega
            case rel => exact ⟨i + 1, cp, g, l, rfl, by go_num, by omega, by omega, by rw [EN.out (q := false) HX1.out (rfl), ← HS.out.1]; simp, HS.out.2.1.kept K5.out (by simp), HS.out.2.2.trans K5.out (by simp)⟩
          · have HO := Lib.hid (HS.out.2.1.kept K5.out (by simp))
            have hbz : W1.heap.size ≤ w5.heap.size := (HS.out.2.2.trans K5.out (by simp)).size
            go_wp2_with ((at_builtin; refine wpList_append_src _ rfl (.tmp 37) (.tmp 39) 57 57 rfl W1.heap.size 50 i0 _ 8 80 Tryz.underlying57 I.out.1 I.out.2.1 I.out.2.2.1 I.out.2.2.2 rfl _ l.length (ecs l) rfl ?hown _ 1 (Ev.mk b0 b1 b2 b3 b4 b5 b6 b7).cs.toList rfl (src_ev w5 ⟨b0, b1, b2, b3, b4, b5, b6, b7⟩) (by unfold maxLen; omega) (by omega) (by first | assumption | omega | (simp; omega)) ?next))
            case hown => exact World.ownsRow.alloc HO.out (.cells #[.int .i64 b0, .int .i64 b1, .string b2, .int .i64 b3, .int .i64 b4, .int .u8 b5, .int .i64 b6, .string b7] 50)
            case next =>
              intro v6 w6 hown hgrow; intros
              have ho : OwnE w6 W1.heap.size 50 v6 (l ++ [⟨b0, b1, b2, b3, b4, b5, b6, b7⟩]) := by unfold OwnE; rw [← ecs_snoc, List.length_append]; exact hown
              have hk : Kept W1 w6 [] := ((HS.out.2.2.trans K5.out (by simp)).alloc (.cells #[.int .i64 b0, .int .i64 b1, .string b2, .int .i64 b3, .int .i64 b4, .int .u8 b5, .int .i64 b6, .string b7] 50)).grown hgrow (fun k hk => .inr (HO.out.lt k hk).1)
              obtain ⟨u9, n9, rfl⟩ := ho.shape
              have R := Lib.hid (And.intro (show l ++ [⟨b0, b1, b2, b3, b4, b5, b6, b7⟩] = (m.take (i + 1)).filter (told st A la B lb o) from by rw [EN.out (q := true) HX1.out rfl, ← HS.out.1]; rfl) (And.intro ho hk))
              clear hown hgrow ho hk q0 q1 q2 q3 q4 q5 q6 q7
              go_wp2
              go_roundg (n - (i + 1))
              case measure => omega
              case rel => exact ⟨i + 1, _, _, _, rfl, by go_num, by omega, by omega, R.out⟩
        · have e2 : ((s0 : Int) == 2) = false := by rw [beq_eq_false_iff_ne]; omega
          have e3 : (s0 == 2) = false := by rw [beq_eq_false_iff_ne]; exact hs2
          have E3 := Lib.hid e3
          clear e3 hs2
          go_wp2
          go_roundg (n - (i + 1))
          case measure => omega
          case rel => exact ⟨i + 1, cp, g, l, rfl, by go_num, by omega, by omega, by rw [EN.out (q := false) HX1.out (by rw [E3.out]; rfl), ← HS.out.1]; simp, HS.out.2.1.kept K3.out (by simp), HS.out.2.2.trans K3.out (by simp)⟩
    · have x1 : ¬ (i : Int) < (n : Int) := by omega
      have ho := HS.out.2.1
      have HS2 := HS.out.1
      rw [List.take_of_length_le (by rw [← HN.out]; omega)] at HS2
      have H2 := Lib.hid HS2
      have hs := Lib.hid (sort_any_g8 ho (by omega))
      clear ho HS2
      go_wp2_with fail
      refine hs.out.mono ?_
      rintro e w2 ⟨rfl, ho2, hf2⟩
      have O2 := Lib.hid ho2; have F2 := Lib.hid hf2
      have hk2 : Kept w w2 [] := Kept.fo_g8 (K1.out.trans HS.out.2.2 (by simp)) hf2 (fun k hk => by have := (HS.out.2.1.lt k hk).1; have := K1.out.size; omega)
      clear ho2 hf2
      go_wp2
      go_ret
      refine ⟨_, rfl, ?_, hk2⟩
      rw [← H2.out]
      exact O2.out.mono K1.out.size

end Go.Proofs.YticiofkiffgclaaGreat
