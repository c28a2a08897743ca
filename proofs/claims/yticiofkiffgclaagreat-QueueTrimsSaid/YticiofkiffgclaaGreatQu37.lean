/-
  Zsa, Zsb, Zsc, Zsch, Zsn, Zsnh, Zsr in one text.
-/
import Derived.Test.YticiofkiffgclaaGreatQu0
import Derived.Test.YticiofkiffgclaaGreatQu36
import Derived.Test.YticiofkiffgclaaGreatQu9
import Derived.Deep.Slices
import Derived.Deep.Fields
import Derived.Deep.Grids
import Derived.ChangeSame
import Derived.LoopTactic
import Derived.ProofKit
import Derived.OpenShut
import Derived.ChangeOld
import Derived.Below
import Derived.Test.YticiofkiffgclaaGreatQu16
import Derived.Laws.StructEq
set_option linter.unusedVariables false
set_option maxHeartbeats 16000000
set_option maxRecDepth 100000
namespace Go.Proofs.YticiofkiffgclaaGreat
open Go.ChangeShapes Go.WideShapes Go.ChangeAt Go.RowKit
structure ActQ where
 d : Nat
 id : Nat
 ow : Nat
 a : Int
def ActQ.cs (x : ActQ) : Array Value := #[.int .u8 x.d, .int .u8 x.id, .int .u8 x.ow, .int .i64 x.a]
structure ActQt (w : World) (b o : Nat) (x : ActQ) : Prop where
 c0 : w.cell? ⟨b, o, none⟩ = some (.int .u8 x.d)
 c1 : w.cell? ⟨b, o + 1, none⟩ = some (.int .u8 x.id)
 c2 : w.cell? ⟨b, o + 2, none⟩ = some (.int .u8 x.ow)
 c3 : w.cell? ⟨b, o + 3, none⟩ = some (.int .i64 x.a)
 d8 : x.d < 256
 i8 : x.id < 256
 o8 : x.ow < 256
 wa : (Lit.int .i64 x.a).wf = true
def IsActsQ (w : World) (B : Nat) (a : Option Addr) (len : Nat) (f : Nat -> ActQ) : Prop :=
 0 < len -> ∃ b o, a = some ⟨b, o, none⟩ /\ b < B /\ ∀ i, i < len -> ActQt w b (o + i * 4) (f i)
theorem ActQt.kept {w w' : World} {b o : Nat} {x : ActQ} (h : ActQt w b o x) (hk : Kept w w' []) : ActQt w' b o x :=
 { h with c0 := hk.cell (p := ⟨b, o, none⟩) (by simp) h.c0, c1 := hk.cell (p := ⟨b, o + 1, none⟩) (by simp) h.c1, c2 := hk.cell (p := ⟨b, o + 2, none⟩) (by simp) h.c2, c3 := hk.cell (p := ⟨b, o + 3, none⟩) (by simp) h.c3 }
theorem IsActsQ.kept {w w' : World} {B : Nat} {a : Option Addr} {len : Nat} {f : Nat -> ActQ} (h : IsActsQ w B a len f) (hk : Kept w w' []) : IsActsQ w' B a len f := fun hl => by
 obtain ⟨b, o, e, hb, hf⟩ := h hl
 exact ⟨b, o, e, hb, fun i hi => (hf i hi).kept hk⟩
theorem actsq_open {H : Type} {enc : TypeId × Value -> H} {w : World} {base : Nat} {held : Bool} {fuel : Nat} {a : Option Addr} {len cap : Nat} {x : DataW H × List MemPlace}
  (h : DataW.trod enc Tryz.prog w base (fun _ => true) held fuel 22 [.slice a len cap] = some x) : ∃ f, IsActsQ w w.heap.size a len f /\ len <= maxLen := by
 have hC : Tryz.prog.cellsOf 28 = 4 := by kernel_rfl
 have e0 : Tryz.prog.cellsOf 5 = 1 := by kernel_rfl
 have e3 : Tryz.prog.cellsOf 2 = 1 := by kernel_rfl
 rcases Go.Deep.open_slice Tryz.underlying22 h with ⟨hcs, _⟩ | ⟨b, l, c, m, n, D, Pl, hcs, _, hl, hm, hmm, _, hel⟩
 ·simp at hcs
  obtain ⟨rfl, rfl, rfl⟩ := hcs
  exact ⟨fun _ => ⟨0, 0, 0, 0⟩, fun h => by omega, Nat.zero_le _⟩
 ·simp at hcs
  obtain ⟨rfl, rfl, rfl⟩ := hcs
  by_cases hpos : 0 < len
  ·have hspot : ∃ bb oo, b = ⟨bb, oo, none⟩ /\ bb < w.heap.size := by
    obtain ⟨cs, hc, _⟩ := hel 0 (by rw [hmm]; simp; omega)
    rw [hC] at hc
    obtain ⟨_, hcl, hat⟩ := World.cells?_some hc
    have h0 := hat 0 (by decide)
    rw [List.getElem?_eq_getElem (by omega)] at h0
    obtain ⟨bb, oo, spot⟩ := b
    have : spot = none := by simpa [Addr.add] using World.cell?_spot h0
    subst this
    exact ⟨bb, oo, rfl, World.block_lt_of_cell? w _ h0⟩
   obtain ⟨bb, oo, rfl, hbb⟩ := hspot
   have hex : ∀ i, i < len -> ∃ y : ActQ, ActQt w bb (oo + i * 4) y := by
    intro i hi
    obtain ⟨cs, hc, ht⟩ := hel i (by rw [hmm]; simp; omega)
    rw [hC] at hc
    obtain ⟨_, hcl, hat⟩ := World.cells?_some hc
    obtain ⟨ys, k, _, _, _, hyl, hf⟩ := DataW.trod_struct Tryz.underlying28 ht
    match cs, hcl, ys, hyl with
    | [x0, x1, x2, x3], _, [y0, y1, y2, y3], _ =>
     have h0 : DataW.trod enc Tryz.prog w base (fun _ => true) held k 5 [x0] = some y0 := by have := hf 0 _ rfl; simpa [e0] using this
     have h1 : DataW.trod enc Tryz.prog w base (fun _ => true) held k 5 [x1] = some y1 := by have := hf 1 _ rfl; simpa [e0] using this
     have h2 : DataW.trod enc Tryz.prog w base (fun _ => true) held k 5 [x2] = some y2 := by have := hf 2 _ rfl; simpa [e0] using this
     have h3 : DataW.trod enc Tryz.prog w base (fun _ => true) held k 2 [x3] = some y3 := by have := hf 3 _ rfl; simpa [e0, e3] using this
     obtain ⟨n0, q0, _, w0⟩ := DataW.trod_int Tryz.underlying5 h0
     obtain ⟨n1, q1, _, w1⟩ := DataW.trod_int Tryz.underlying5 h1
     obtain ⟨n2, q2, _, w2⟩ := DataW.trod_int Tryz.underlying5 h2
     obtain ⟨n3, q3, _, w3⟩ := DataW.trod_int Tryz.underlying2 h3
     have b0 := bounds_u8 w0
     have b1 := bounds_u8 w1
     have b2 := bounds_u8 w2
     simp at q0 q1 q2 q3
     subst q0 q1 q2 q3
     have cell : ∀ j, j < 4 -> w.cell? ⟨bb, oo + i * 4 + j, none⟩ = [Value.int .u8 n0, .int .u8 n1, .int .u8 n2, .int .i64 n3][j]? := fun j hj => by
      have := hat j hj
      rw [Go.Deep.add_add, Addr.add_lit] at this
      rw [Nat.add_assoc]
      exact this
     refine ⟨⟨n0.toNat, n1.toNat, n2.toNat, n3⟩, ?_⟩
     exact { c0 := (cell 0 (by decide)).trans (congrArg (fun z => some (Value.int .u8 z)) (show n0 = ((n0.toNat : Nat) : Int) by omega)), c1 := (cell 1 (by decide)).trans (congrArg (fun z => some (Value.int .u8 z)) (show n1 = ((n1.toNat : Nat) : Int) by omega)), c2 := (cell 2 (by decide)).trans (congrArg (fun z => some (Value.int .u8 z)) (show n2 = ((n2.toNat : Nat) : Int) by omega)), c3 := cell 3 (by decide), d8 := by show n0.toNat < 256; omega, i8 := by show n1.toNat < 256; omega, o8 := by show n2.toNat < 256; omega, wa := w3 }
   refine ⟨fun i => if h : i < len then Classical.choose (hex i h) else ⟨0, 0, 0, 0⟩, fun _ => ⟨bb, oo, rfl, hbb, fun i hi => ?_⟩, by omega⟩
   simp only [dif_pos hi]
   exact Classical.choose_spec (hex i hi)
  exact ⟨fun _ => ⟨0, 0, 0, 0⟩, fun h => absurd h hpos, by omega⟩
abbrev runT : TypeId := 69
theorem wt {P : Program} {md : Region.Mode} {ops : Array Oper} {Q : Exit -> Act -> World -> Prop} {S : World -> Prop} {i : Nat} {oi : Oper} {v : Value} {fuel : Nat} {listed : Array Bool} {a : Act} {w : World} (hi : ops[i]? = some oi) (hy : YieldsIf P ops S oi v a) (hS : S w)
  (h : wpAnyH P md ops Q S fuel (listed.setIfInBounds i true) (a.put oi.dst v) w) (hs : Region.noSelect ops = true := by kernel_rfl) (hf : Region.free md ops listed i = true := by kernel_rfl) (hr : (Region.ready md ops listed).contains i = true := by kernel_rfl) (hQ : ∀ c a w, Q (.panic c) (a.put oi.dst v) w -> Q (.panic c) a w := by exact fun _ _ _ h => h) : wpAnyH P md ops Q S (fuel + 1) listed a w :=
 wpAnyH_take hi hs hf hr hQ hy hS h
structure Bs (w0 w : World) (a : Hk) (h m hx : Nat) (s1 s2 : List Nat) (q1 q2 : Qs) (O1 O2 : Nat -> Prop) : Prop where
 ks : KS w w0.heap.size a s1 q1 O1
 ds : DS w w0.heap.size h m s2 q2 O2
 dis : ∀ k, O1 k -> ¬ O2 k
 hx : w.heap[hx]? = some (.cells #[.pointer (some ⟨a.p, 0, none⟩), .pointer (some ⟨m, 0, none⟩), .pointer (some ⟨a.h, 0, none⟩), .pointer (some ⟨h, 0, none⟩)] runT (0, 0))
 k0 : Kept w0 w []
variable {w0 w w' : World} {a : Hk} {h m hx : Nat} {s1 s2 s1' s2' : List Nat} {q1 q2 q' : Qs} {O1 O2 : Nat -> Prop}
theorem Bs.keep (b : Bs w0 w a h m hx s1 s2 q1 q2 O1 O2) (k : Kept w w' []) : Bs w0 w' a h m hx s1 s2 q1 q2 O1 O2 := ⟨b.ks.keep k, b.ds.keep k, b.dis, k.heap (by simp) b.hx, b.k0.trans k (by simp)⟩
theorem dqts_noT (s : DS w w0.heap.size h m s2 q2 O2) {ts : List TypeId} (ht : ∀ t ∈ qts rqT, t ∉ ts) : NoT w O2 ts := by
 obtain ⟨d, v, xs, k, e1, e2, e3, e4, rfl⟩ := s.ex
 exact k.dq.noT ht
def offT (t : TypeId) : Prop := t ∉ kts /\ t ∉ qts rqT /\ t ∉ mts /\ t ∉ rts
theorem Bs.code (b : Bs w0 w a h m hx s1 s2 q1 q2 O1 O2) (p : KPost w w0.heap.size a s1 O1 q' w') : ∃ O', Bs w0 w' a h m hx s1 s2 q' q2 O' O2 /\ Stp O1 O' w w' /\ (∀ k, O1 k -> k < w.heap.size) /\ ∀ (z : Nat) (c : Array Value) (t : TypeId) (f : Nat × Nat), w.heap[z]? = some (.cells c t f) -> offT t -> w'.heap[z]? = some (.cells c t f) := by
 obtain ⟨O', s, t⟩ := p
 obtain ⟨d', n'⟩ := b.ds.code b.ks b.dis t
 have g : ∀ (z : Nat) (c : Array Value) (t : TypeId) (f : Nat × Nat), w.heap[z]? = some (.cells c t f) -> offT t -> w'.heap[z]? = some (.cells c t f) := fun z c ty f hz ht => t.1.heap (fun hO => b.ks.noT (ts := [ty]) (fun x hx h => by rw [List.mem_singleton] at h; exact ht.1 (h ▸ hx)) z hO _ _ _ hz (by simp)) hz
 exact ⟨O', ⟨s, d', n', g _ _ _ _ b.hx (by unfold offT; decide), b.k0.foC t.1 (fun k hk => (b.ks.lt k hk).1)⟩, t, fun k hk => (b.ks.lt k hk).2, g⟩
theorem Bs.doc (b : Bs w0 w a h m hx s1 s2 q1 q2 O1 O2) (p : DPost w w0.heap.size h m s2 O2 q' w') : ∃ O', Bs w0 w' a h m hx s1 s2 q1 q' O1 O' /\ Stp O2 O' w w' /\ (∀ k, O2 k -> k < w.heap.size) /\ ∀ (z : Nat) (c : Array Value) (t : TypeId) (f : Nat × Nat), w.heap[z]? = some (.cells c t f) -> offT t -> w'.heap[z]? = some (.cells c t f) := by
 obtain ⟨O', s, t⟩ := p
 obtain ⟨k', n'⟩ := b.ks.doc b.ds b.dis t
 have g : ∀ (z : Nat) (c : Array Value) (t : TypeId) (f : Nat × Nat), w.heap[z]? = some (.cells c t f) -> offT t -> w'.heap[z]? = some (.cells c t f) := fun z c ty f hz ht => t.1.heap (fun hO => dqts_noT b.ds (ts := [ty]) (fun x hx h => by rw [List.mem_singleton] at h; exact ht.2.1 (h ▸ hx)) z hO _ _ _ hz (by simp)) hz
 exact ⟨O', ⟨k', s, n', g _ _ _ _ b.hx (by unfold offT; decide), b.k0.foC t.1 (fun k hk => (b.ds.lt k hk).1)⟩, t, fun k hk => (b.ds.lt k hk).2, g⟩
theorem Bs.cman (b : Bs w0 w a h m hx s1 s2 q1 q2 O1 O2) (p : MPost w w0.heap.size a s1' q1 O1 w') : Bs w0 w' a h m hx s1' s2 q1 q2 O1 O2 /\ ∀ (z : Nat) (c : Array Value) (t : TypeId) (f : Nat × Nat), w.heap[z]? = some (.cells c t f) -> offT t -> w'.heap[z]? = some (.cells c t f) :=
 ⟨⟨p.1, b.ds.mgr p.2, b.dis, p.2.heap b.hx (by decide), (Kh.mpost b.k0 p).2⟩, fun z c t f hz ht => p.2.heap hz ht.2.2.1⟩
theorem Bs.dman (b : Bs w0 w a h m hx s1 s2 q1 q2 O1 O2) (p : DMPost w w0.heap.size h m s2' q2 O2 w') : Bs w0 w' a h m hx s1 s2' q1 q2 O1 O2 /\ ∀ (z : Nat) (c : Array Value) (t : TypeId) (f : Nat × Nat), w.heap[z]? = some (.cells c t f) -> offT t -> w'.heap[z]? = some (.cells c t f) :=
 ⟨⟨b.ks.rmg p.2, p.1, b.dis, p.2.heap b.hx (by decide), ((Fm.ofKept b.k0 w0.heap.size rts).trans (Fm.ofFr p.2)).kept (Nat.le_refl _)⟩, fun z c t f hz ht => p.2.heap hz ht.2.2.2⟩
def Bq (w0 w : World) (a : Hk) (h m hx k : Nat) : Prop := ∃ st q O1 O2, Bs w0 w a h m hx st st q q O1 O2 /\ SzQ k q /\ st.length <= k
def nmQ (n : Nat) : ByteArray := if 250 <= n then ⟨#[]⟩ else bN (97 + ((n % 5 : Nat) : Int))
theorem xqd {W : World} {xb : Nat} {u0 u1 u2 u3 : Value} {T : TypeId} {f : Nat × Nat} (h : W.heap[xb]? = some (.cells #[u0, u1, u2, u3] T f)) : W.cell? ⟨xb, 0, none⟩ = some u0 /\ W.cell? ⟨xb, 1, none⟩ = some u1 /\ W.cell? ⟨xb, 2, none⟩ = some u2 /\ W.cell? ⟨xb, 3, none⟩ = some u3 :=
 ⟨by rw [cell_of_row _ _ _ _ _ _ h]; rfl, by rw [cell_of_row _ _ _ _ _ _ h]; rfl, by rw [cell_of_row _ _ _ _ _ _ h]; rfl, by rw [cell_of_row _ _ _ _ _ _ h]; rfl⟩
theorem xqO (x : ActQ) (hn : x.id < 256) (w : World) : Calls Tryz.prog 57 #[.agg x.cs] w fun e w' => e = .returned (.string (nmQ x.id)) /\ Kept w w' [] := by
 obtain ⟨D, n, K, N⟩ := x
 simp only [ActQ.cs] at *
 obtain ⟨zb, hzb⟩ : ∃ zb, zb = w.heap.size := ⟨_, rfl⟩
 obtain ⟨W1, hW1⟩ : ∃ W1, W1 = w.alloc (.cells #[.int .u8 D, .int .u8 n, .int .u8 K, .int .i64 N] 28) := ⟨_, rfl⟩
 have K1 := iH (show Kept w W1 [] by rw [hW1]; exact (Kept.refl w []).alloc _)
 have G1 := iH (show W1.heap[zb]? = some (.cells #[.int .u8 D, .int .u8 n, .int .u8 K, .int .i64 N] 28 (0, 0)) by rw [hW1, hzb]; exact heap_alloc_new w _)
 have HW1 := iH hW1; have HZB := iH hzb
 obtain ⟨r, hr⟩ : ∃ r : Nat, r = n % 5 := ⟨_, rfl⟩
 have xr : (n : Int) % 5 = (r : Int) := by omega
 have xrt : (n : Int).tmod 5 = (r : Int) := by rw [Int.tmod_eq_emod_of_nonneg (by omega)]; exact xr
 have hr3 : r < 5 := by omega
 rw [nmQ, <- hr]
 clear hr hW1
 by_cases h : 250 <= n
 ·rw [if_pos h]
  have x1 : (250 : Int) <= (n : Int) := by omega
  clear xr xrt hr3
  go_enter Tryz.func57, Tryz.ntmps57
  go_upto_region 1 with fail
  rw [<- HW1.out, <- HZB.out]
  clear hzb
  obtain ⟨c0, c1, c2, c3⟩ := xqd G1.out
  go_wp2
  go_ret
  exact ⟨rfl, K1.out⟩
 rw [if_neg h]
 have x1 : ¬ (250 : Int) <= (n : Int) := by omega
 have sc := str1 (x := 97 + (r : Int)) (by omega) (by omega) W1 W1.heap.size rfl
 go_enter Tryz.func57, Tryz.ntmps57
 go_upto_region 1 with fail
 rw [<- HW1.out, <- HZB.out]
 clear hzb
 obtain ⟨c0, c1, c2, c3⟩ := xqd G1.out
 go_wp2
 go_ret
 exact ⟨rfl, K1.out.alloc _⟩
theorem qfirst_any (x y : Int) (w : World) : Calls Tryz.prog 50 #[.int .i64 x, .int .i64 x, .int .i64 y, .int .i64 y] w fun e w' => e = .returned (.bool true) /\ w' = w := by
 go_enter Tryz.func50, Tryz.ntmps50
 go_wp2
 go_ret
 exact ⟨by simp, rfl⟩
variable {w0 w w' : World} {a : Hk} {h m hx : Nat} {s1 s2 s1' s2' : List Nat} {q1 q2 q' : Qs} {O1 O2 : Nat -> Prop}
theorem four_frozen {W : World} {xb : Nat} {u0 u1 u2 u3 : Value} {T : TypeId} (h : W.heap[xb]? = some (.cells #[u0, u1, u2, u3] T (0, 0))) : W.frozen? ⟨xb, 0, none⟩ = false /\ W.frozen? ⟨xb, 1, none⟩ = false /\ W.frozen? ⟨xb, 2, none⟩ = false /\ W.frozen? ⟨xb, 3, none⟩ = false := by
 refine ⟨?_, ?_, ?_, ?_⟩ <;> (simp only [World.frozen?, h]; rfl)
theorem yqz {W : World} {xb : Nat} {u0 u1 u2 u3 : Value} {T : TypeId} {f : Nat × Nat} (h : W.heap[xb]? = some (.cells #[u0, u1, u2, u3] T f)) : W.cell? ⟨xb, 0, none⟩ = some u0 /\ W.cell? ⟨xb, 1, none⟩ = some u1 := ⟨(xqd h).1, (xqd h).2.1⟩
theorem fin {W w2 w3 w4 w6 : World} {p : Nat} (hxb : W.heap.size <= hx) (g2 : w2.heap[hx]? = some (.cells #[.pointer (some ⟨p, 0, none⟩), .pointer (some ⟨m, 0, none⟩), .pointer none, .pointer none] runT (0, 0))) (k2 : Kept W w2 []) (k3 : Kept w2 w3 []) (k4 : Kept w2 w4 []) (hp : a.p = p) (s : KS w4 W.heap.size a [] Qs.new O1) (d : DS w4 W.heap.size h m [] Qs.new O2) (l3 : ∀ k, O1 k -> w2.heap.size <= k) (l4 : ∀ k, O2 k -> w3.heap.size <= k) (z3 : ∀ k, O1 k -> k < w3.heap.size)
  (g4 : w4.heap[hx]? = some (.cells #[.pointer (some ⟨p, 0, none⟩), .pointer (some ⟨m, 0, none⟩), .pointer none, .pointer none] runT (0, 0))) (f : Fo (fun k => k = hx) w4 w6) (g6 : w6.heap[hx]? = some (.cells #[.pointer (some ⟨p, 0, none⟩), .pointer (some ⟨m, 0, none⟩), .pointer (some ⟨a.h, 0, none⟩), .pointer (some ⟨h, 0, none⟩)] runT (0, 0))) : Bq W w6 a h m hx 0 := by
 have hb := xqh g2
 have hs := k3.size
 have n1 : ∀ k, O1 k -> ¬ k = hx := fun k hk e => by have := l3 k hk; omega
 have n2 : ∀ k, O2 k -> ¬ k = hx := fun k hk e => by have := l4 k hk; omega
 have oi := xqK g4 (by decide)
 have om : NoM w4 (fun k => k = hx) := by
  intro k hk x y h
  subst hk
  rw [g4] at h
  cases h
 have ot : ∀ ts : List TypeId, runT ∉ ts -> NoT w4 (fun k => k = hx) ts := by
  intro ts ht k hk c t f h hm
  subst hk
  rw [g4] at h
  cases h
  exact ht hm
 subst hp
 exact ⟨[], Qs.new, O1, O2, ⟨s.fo f n1 oi (ot _ (by decide)) om, d.fo f n2 oi (ot _ (by decide)), fun k h1 h2 => by have := z3 k h1; have := l4 k h2; omega, g6, (k2.trans k4 (by simp)).foC f (fun k hk => by rw [hk]; exact hxb)⟩, SzQ.new, Nat.le_refl _⟩
theorem start_any (W : World) : Calls Tryz.prog 10 #[] W fun e w' => ∃ a h m hx, e = .returned (.pointer (some ⟨hx, 0, none⟩)) /\ Bq W w' a h m hx 0 := by
 go_enter Tryz.func10, Tryz.ntmps10
 go_wp2_with fail
 refine (mnew_any W).mono ?_
 rintro e w1 ⟨p, b, u, rfl, m1, k1⟩
 obtain ⟨m, hm⟩ : ∃ m, m = w1.heap.size := ⟨_, rfl⟩
 obtain ⟨w1', hw1⟩ : ∃ w1', w1' = w1.alloc (.cells #[.slice none 0 0] 106) := ⟨_, rfl⟩
 obtain ⟨hx, hhx⟩ : ∃ hx, hx = m + 1 := ⟨_, rfl⟩
 have ez : hx = w1'.heap.size := by rw [hhx, hw1, hm]; simp
 obtain ⟨w2, hw2⟩ : ∃ w2, w2 = w1'.alloc (.cells #[.pointer (some ⟨p, 0, none⟩), .pointer (some ⟨m, 0, none⟩), .pointer none, .pointer none] runT) := ⟨_, rfl⟩
 have ka : Kept w1 w1' [] := by rw [hw1]; exact (Kept.refl w1 []).alloc _
 have kb : Kept w1' w2 [] := by rw [hw2]; exact (Kept.refl w1' []).alloc _
 have M2 := iH (m1.keep (ka.trans kb (by simp)))
 have R2 := iH (show Rm w2 W.heap.size m (.slice none 0 0) [] from Rm.keep (by rw [hw1, hm]; exact rnew w1 k1.size) kb)
 have G2 := iH (show w2.heap[hx]? = some (.cells #[.pointer (some ⟨p, 0, none⟩), .pointer (some ⟨m, 0, none⟩), .pointer none, .pointer none] runT (0, 0)) by rw [hw2, ez]; exact heap_alloc_new w1' _)
 have K2 := iH (k1.trans (ka.trans kb (by simp)) (by simp))
 have HX := iH (show W.heap.size <= hx by rw [ez]; exact Nat.le_trans k1.size ka.size)
 have HM := iH hm; have HW1 := iH hw1; have HHX := iH hhx; have HW2 := iH hw2
 clear m1 k1 ka kb hm hw1 hhx hw2 ez
 go_upto_region 2 with fail
 rw [<- HM.out, <- HW1.out, <- HHX.out, <- HW2.out]
 clear HM HW1 HHX HW2
 refine wp_region_held_drew (S := fun Z => Z.cell? ⟨hx, 0, none⟩ = some (.pointer (some ⟨p, 0, none⟩)) /\ Z.cell? ⟨hx, 1, none⟩ = some (.pointer (some ⟨m, 0, none⟩))) (by kernel_rfl) (show w2.drew.cell? ⟨hx, 0, none⟩ = some (.pointer (some ⟨p, 0, none⟩)) /\ w2.drew.cell? ⟨hx, 1, none⟩ = some (.pointer (some ⟨m, 0, none⟩)) from yqz G2.out) (fun hJ => ?_)
 refine wx 0 7 (.pointer (some ⟨hx, 0, none⟩)) rfl hJ ?_
 refine wx 1 8 (.pointer (some ⟨hx, 0, none⟩)) rfl hJ ?_
 refine wx 2 9 (.pointer (some ⟨hx, 0, none⟩)) rfl hJ ?_
 refine wx 3 10 (.pointer (some ⟨hx, 0, none⟩)) rfl hJ ?_
 refine wx 4 11 (.pointer (some ⟨hx, 0, none⟩)) rfl hJ ?_
 refine wx 5 12 (.pointer (some ⟨p, 0, none⟩)) rfl hJ ?_ (hy := fun V hV => by (obtain ⟨c0, c1⟩ := hV; go_simp))
 refine wx 7 14 (.pointer (some ⟨hx, 0, none⟩)) rfl hJ ?_
 refine wx 8 15 (.pointer (some ⟨hx, 0, none⟩)) rfl hJ ?_
 refine wx 9 16 (.pointer (some ⟨hx, 1, none⟩)) rfl hJ ?_
 refine wx 10 17 (.pointer (some ⟨m, 0, none⟩)) rfl hJ ?_ (hy := fun V hV => by (obtain ⟨c0, c1⟩ := hV; go_simp))
 refine wr1 6 rfl (fun K hK => ?_)
 go_simp
 go_at_call 14
 refine (knew_any ((M2.out.keep ((Kept.refl w2 []).drew))) (Nat.le_refl _) (show W.heap.size <= w2.drew.heap.size from K2.out.size)).mono ?_
 rintro e w3 ⟨a, O1, rfl, hp, s3, k3, l3⟩
 have K3 := iH (((Kept.refl w2 []).drew).trans k3 (by simp))
 have S3 := iH s3; have L3 := iH l3; have HP := iH hp
 clear s3 k3 l3 hp
 go_wp2_with fail
 refine hK.out _ _ (yqz (K3.out.heap (by simp) G2.out)) (fun hJ => ?_)
 clear hK K
 refine wr1 11 rfl (fun K hK => ?_)
 go_simp
 go_at_call 47
 refine (dnew_any (R2.out.keep K3.out) (Nat.le_trans K2.out.size K3.out.size)).mono ?_
 rintro e w4 ⟨O2, rfl, s4, k4, l4⟩
 obtain ⟨h, hh⟩ : ∃ h, h = w3.heap.size := ⟨_, rfl⟩
 rw [<- hh] at s4 ⊢
 have K4 := iH (K3.out.trans k4 (by simp))
 have S4 := iH s4; have L4 := iH l4; have KS4 := iH (S3.out.keep k4)
 have Z3 := iH (show ∀ k, O1 k -> k < w3.heap.size from fun k hk => (S3.out.lt k hk).2)
 have G4 := iH (K4.out.heap (by simp) G2.out)
 clear s4 k4 l4 hh
 obtain ⟨w5, hw5⟩ : ∃ w5, w5 = w4.setCell ⟨hx, 2, none⟩ (.pointer (some ⟨a.h, 0, none⟩)) := ⟨_, rfl⟩
 obtain ⟨w6, hw6⟩ : ∃ w6, w6 = w5.setCell ⟨hx, 3, none⟩ (.pointer (some ⟨h, 0, none⟩)) := ⟨_, rfl⟩
 have G5 := iH (show w5.heap[hx]? = some (.cells #[.pointer (some ⟨p, 0, none⟩), .pointer (some ⟨m, 0, none⟩), .pointer (some ⟨a.h, 0, none⟩), .pointer none] runT (0, 0)) by rw [hw5, xqb G4.out]; rfl)
 have G6 := iH (show w6.heap[hx]? = some (.cells #[.pointer (some ⟨p, 0, none⟩), .pointer (some ⟨m, 0, none⟩), .pointer (some ⟨a.h, 0, none⟩), .pointer (some ⟨h, 0, none⟩)] runT (0, 0)) by rw [hw6, xqb G5.out]; rfl)
 have F6 := iH (show Fo (fun k => k = hx) w4 w6 by rw [hw6, hw5]; exact Fo.setCell (O := fun k => k = hx) (Fo.setCell (O := fun k => k = hx) (Fo.refl _ w4) (p := ⟨hx, 2, none⟩) (.inl rfl) _) (p := ⟨hx, 3, none⟩) (.inl rfl) _)
 have HW5 := iH hw5; have HW6 := iH hw6
 clear hw5 hw6
 go_wp2_with fail
 refine hK.out _ _ (yqz G4.out) (fun hJ => ?_)
 clear hK K
 refine wx 12 19 (.pointer (some ⟨hx, 0, none⟩)) rfl hJ ?_
 refine wx 13 20 (.pointer (some ⟨hx, 2, none⟩)) rfl hJ ?_
 refine wr1 14 rfl (fun K hK => ?_)
 obtain ⟨c0, c1, c2, c3⟩ := xqd G4.out
 obtain ⟨f0, f1, f2, f3⟩ := four_frozen G4.out
 go_simp
 refine hK.out _ (w4.setCell ⟨hx, 2, none⟩ (.pointer (some ⟨a.h, 0, none⟩))) (by rw [<- HW5.out]; exact yqz G5.out) (fun hJ => ?_)
 clear hK K
 rw [<- HW5.out] at hJ ⊢
 clear c0 c1 c2 c3 f0 f1 f2 f3
 refine wx 15 21 (.pointer (some ⟨hx, 0, none⟩)) rfl hJ ?_
 refine wx 16 22 (.pointer (some ⟨hx, 3, none⟩)) rfl hJ ?_
 refine wr1 17 rfl (fun K hK => ?_)
 obtain ⟨c0, c1, c2, c3⟩ := xqd G5.out
 obtain ⟨f0, f1, f2, f3⟩ := four_frozen G5.out
 go_simp
 refine hK.out _ (w5.setCell ⟨hx, 3, none⟩ (.pointer (some ⟨h, 0, none⟩))) (by rw [<- HW6.out]; exact yqz G6.out) (fun hJ => ?_)
 clear hK K
 rw [<- HW6.out] at hJ ⊢
 clear c0 c1 c2 c3 f0 f1 f2 f3
 refine wd ?_
 clear hJ
 go_wp2
 go_ret
 exact ⟨a, h, m, hx, rfl, fin HX.out G2.out K2.out K3.out K4.out HP.out KS4.out S4.out L3.out L4.out Z3.out G4.out F6.out G6.out⟩
variable {w0 w w' : World} {a : Hk} {h m hx zb zr : Nat} {s1 s2 s1' s2' : List Nat} {q1 q2 q' : Qs} {O1 O2 : Nat -> Prop} {C R : Array Value}
theorem xqU : offT 28 /\ offT 48 := by unfold offT; decide
def Sg (a : Hk) (h m hx zb : Nat) (C : Array Value) (zr : Nat) (R : Array Value) (Z : World) : Prop :=
 Z.heap[hx]? = some (.cells #[.pointer (some ⟨a.p, 0, none⟩), .pointer (some ⟨m, 0, none⟩), .pointer (some ⟨a.h, 0, none⟩), .pointer (some ⟨h, 0, none⟩)] runT (0, 0)) /\ Z.heap[zb]? = some (.cells C 28 (0, 0)) /\ Z.heap[zr]? = some (.cells R 48 (0, 0))
def Gd (w0 w : World) (a : Hk) (h m hx : Nat) (s1 s2 : List Nat) (q1 q2 : Qs) (zb : Nat) (C : Array Value) (zr : Nat) (R : Array Value) : Prop :=
 ∃ O1 O2, Bs w0 w a h m hx s1 s2 q1 q2 O1 O2 /\ Sg a h m hx zb C zr R w
theorem Sg.keep (s : Sg a h m hx zb C zr R w) (k : Kept w w' []) : Sg a h m hx zb C zr R w' := ⟨k.heap (by simp) s.1, k.heap (by simp) s.2.1, k.heap (by simp) s.2.2⟩
theorem Gd.keep (g : Gd w0 w a h m hx s1 s2 q1 q2 zb C zr R) (k : Kept w w' []) : Gd w0 w' a h m hx s1 s2 q1 q2 zb C zr R := by
 obtain ⟨O1, O2, b, s⟩ := g
 exact ⟨O1, O2, b.keep k, s.keep k⟩
theorem Gd.sg (g : Gd w0 w a h m hx s1 s2 q1 q2 zb C zr R) : Sg a h m hx zb C zr R w := by
 obtain ⟨O1, O2, b, s⟩ := g
 exact s
theorem Gd.bq {k : Nat} (g : Gd w0 w a h m hx s1 s1 q1 q1 zb C zr R) (z : SzQ k q1) (hl : s1.length <= k) : Bq w0 w a h m hx k := by
 obtain ⟨O1, O2, b, s⟩ := g
 exact ⟨s1, q1, O1, O2, b, z, hl⟩
theorem Gd.c (g : Gd w0 w a h m hx s1 s2 q1 q2 zb C zr R) : ∃ O1, KS w w0.heap.size a s1 q1 O1 /\ ∀ q' w', KPost w w0.heap.size a s1 O1 q' w' -> Gd w0 w' a h m hx s1 s2 q' q2 zb C zr R := by
 obtain ⟨O1, O2, b, s⟩ := g
 refine ⟨O1, b.ks, fun q' w' p => ?_⟩
 obtain ⟨O', b', -, -, g⟩ := b.code p
 exact ⟨O', O2, b', b'.hx, g _ _ _ _ s.2.1 xqU.1, g _ _ _ _ s.2.2 xqU.2⟩
theorem Gd.d (g : Gd w0 w a h m hx s1 s2 q1 q2 zb C zr R) : ∃ O2, DS w w0.heap.size h m s2 q2 O2 /\ ∀ q' w', DPost w w0.heap.size h m s2 O2 q' w' -> Gd w0 w' a h m hx s1 s2 q1 q' zb C zr R := by
 obtain ⟨O1, O2, b, s⟩ := g
 refine ⟨O2, b.ds, fun q' w' p => ?_⟩
 obtain ⟨O', b', -, -, g⟩ := b.doc p
 exact ⟨O1, O', b', b'.hx, g _ _ _ _ s.2.1 xqU.1, g _ _ _ _ s.2.2 xqU.2⟩
theorem Gd.cm (g : Gd w0 w a h m hx s1 s2 q1 q2 zb C zr R) : ∃ O1, KS w w0.heap.size a s1 q1 O1 /\ ∀ s' w', MPost w w0.heap.size a s' q1 O1 w' -> Gd w0 w' a h m hx s' s2 q1 q2 zb C zr R := by
 obtain ⟨O1, O2, b, s⟩ := g
 refine ⟨O1, b.ks, fun s' w' p => ?_⟩
 obtain ⟨b', g⟩ := b.cman p
 exact ⟨O1, O2, b', b'.hx, g _ _ _ _ s.2.1 xqU.1, g _ _ _ _ s.2.2 xqU.2⟩
theorem Gd.dm (g : Gd w0 w a h m hx s1 s2 q1 q2 zb C zr R) : ∃ O2, DS w w0.heap.size h m s2 q2 O2 /\ ∀ s' w', DMPost w w0.heap.size h m s' q2 O2 w' -> Gd w0 w' a h m hx s1 s' q1 q2 zb C zr R := by
 obtain ⟨O1, O2, b, s⟩ := g
 refine ⟨O2, b.ds, fun s' w' p => ?_⟩
 obtain ⟨b', g⟩ := b.dman p
 exact ⟨O1, O2, b', b'.hx, g _ _ _ _ s.2.1 xqU.1, g _ _ _ _ s.2.2 xqU.2⟩
theorem tm4 {U r : Nat} (h : r = U % 4) : (U : Int) % 4 = (r : Int) /\ (U : Int).tmod 4 = (r : Int) /\ IntKind.i64.wrap (r : Int) = (r : Int) /\ wrap64 (r : Int) = (r : Int) := by
 have e : (U : Int) % 4 = (r : Int) := by omega
 exact ⟨e, (Int.tmod_eq_emod_of_nonneg (by omega)).trans e, by rw [IntKind.wrap_i64]; omega, by simp only [wrap64]; omega⟩
theorem tm5 {U r : Nat} (h : r = U % 5) : (U : Int) % 5 = (r : Int) /\ (U : Int).tmod 5 = (r : Int) /\ IntKind.i64.wrap (r : Int) = (r : Int) /\ wrap64 (r : Int) = (r : Int) := by
 have e : (U : Int) % 5 = (r : Int) := by omega
 exact ⟨e, (Int.tmod_eq_emod_of_nonneg (by omega)).trans e, by rw [IntKind.wrap_i64]; omega, by simp only [wrap64]; omega⟩
theorem tm24 (D : Nat) : (D : Int) % 24 = ((D % 24 : Nat) : Int) /\ (D : Int).tmod 24 = ((D % 24 : Nat) : Int) := by
 have e : (D : Int) % 24 = ((D % 24 : Nat) : Int) := by omega
 exact ⟨e, (Int.tmod_eq_emod_of_nonneg (by omega)).trans e⟩
theorem ow_wf {ow : Int} (h : -100 <= ow /\ ow <= 100000) : (Lit.int .i64 ow).wf = true := wf_i64 (by omega)
theorem tm4u {U r : Nat} (h : r = U % 4) : IntKind.u8.wrap (1 + (r : Int)) = 1 + (r : Int) := by rw [IntKind.wrap_u8]; omega
theorem tm20 {U r : Nat} (h : r = U % 20) : (U : Int) % 20 = (r : Int) /\ (U : Int).tmod 20 = (r : Int) /\ IntKind.i64.wrap (r : Int) = (r : Int) /\ wrap64 (r : Int) = (r : Int) := by
 have e : (U : Int) % 20 = (r : Int) := by omega
 exact ⟨e, (Int.tmod_eq_emod_of_nonneg (by omega)).trans e, by rw [IntKind.wrap_i64]; omega, by simp only [wrap64]; omega⟩
theorem do_in {k : Nat} (b : Bq w0 w a h m hx k) (D U K r5 : Nat) (N : Int) : ∃ st q w1 w2 w3 w4, w1 = w.alloc (.cells #[.int .u8 D, .int .u8 U, .int .u8 K, .int .i64 N] 28) /\ w2 = w1.drew /\ w3 = w2.alloc (.cells #[.int .i64 (r5 : Nat), .string ⟨#[116]⟩] 48) /\ w4 = w3.drew /\
  (∃ O2, DS w2 w0.heap.size h m st q O2) /\ (w2.heap[hx]? = some (.cells #[.pointer (some ⟨a.p, 0, none⟩), .pointer (some ⟨m, 0, none⟩), .pointer (some ⟨a.h, 0, none⟩), .pointer (some ⟨h, 0, none⟩)] runT (0, 0)) /\ w2.heap[w.heap.size]? = some (.cells #[.int .u8 D, .int .u8 U, .int .u8 K, .int .i64 N] 28 (0, 0))) /\
  Gd w0 w3 a h m hx st st q q w.heap.size #[.int .u8 D, .int .u8 U, .int .u8 K, .int .i64 N] (w.heap.size + 1) #[.int .i64 (r5 : Nat), .string ⟨#[116]⟩] /\ Gd w0 w4 a h m hx st st q q w.heap.size #[.int .u8 D, .int .u8 U, .int .u8 K, .int .i64 N] (w.heap.size + 1) #[.int .i64 (r5 : Nat), .string ⟨#[116]⟩] /\ SzQ k q /\ st.length <= k := by
 obtain ⟨st, q, O1, O2, b, z, hl⟩ := b
 refine ⟨st, q, _, _, _, _, rfl, rfl, rfl, rfl, ⟨O2, ?_⟩, ⟨?_, ?_⟩, ⟨O1, O2, ?_, ?_, ?_, ?_⟩, ⟨O1, O2, ?_, ?_, ?_, ?_⟩, z, hl⟩
 ·exact b.ds.keep (((Kept.refl w []).alloc _).drew)
 ·exact (((Kept.refl w []).alloc _).drew).heap (by simp) b.hx
 ·exact ((Kept.refl _ []).drew).heap (by simp) (heap_alloc_new w _)
 ·exact b.keep ((((Kept.refl w []).alloc _).drew).alloc _)
 ·exact ((((Kept.refl w []).alloc _).drew).alloc _).heap (by simp) b.hx
 ·exact (((Kept.refl _ []).drew).alloc _).heap (by simp) (heap_alloc_new w _)
 ·have e : (w.alloc (.cells #[.int .u8 D, .int .u8 U, .int .u8 K, .int .i64 N] 28)).drew.heap.size = w.heap.size + 1 := by show (w.alloc _).heap.size = _; simp
  rw [<- e]
  exact heap_alloc_new _ _
 ·exact b.keep (((((Kept.refl w []).alloc _).drew).alloc _).drew)
 ·exact (((((Kept.refl w []).alloc _).drew).alloc _).drew).heap (by simp) b.hx
 ·exact ((((Kept.refl _ []).drew).alloc _).drew).heap (by simp) (heap_alloc_new w _)
 ·have e : (w.alloc (.cells #[.int .u8 D, .int .u8 U, .int .u8 K, .int .i64 N] 28)).drew.heap.size = w.heap.size + 1 := by show (w.alloc _).heap.size = _; simp
  rw [<- e]
  exact ((Kept.refl _ []).drew).heap (by simp) (heap_alloc_new _ _)
variable {w0 w w' : World} {a : Hk} {h m hx zb zr : Nat} {s1 s2 s1' s2' : List Nat} {q1 q2 q' : Qs} {O1 O2 : Nat -> Prop} {C R : Array Value}
theorem xqg {D U Ky r : Nat} {N : Int} {t : ByteArray} {Z : World} (s : Sg a h m hx zb #[.int .u8 D, .int .u8 U, .int .u8 Ky, .int .i64 N] zr #[.int .i64 (r : Nat), .string t] Z) : Z.cell? ⟨hx, 0, none⟩ = some (.pointer (some ⟨a.p, 0, none⟩)) /\ Z.cell? ⟨hx, 1, none⟩ = some (.pointer (some ⟨m, 0, none⟩)) /\ Z.cell? ⟨hx, 2, none⟩ = some (.pointer (some ⟨a.h, 0, none⟩)) /\ Z.cell? ⟨hx, 3, none⟩ = some (.pointer (some ⟨h, 0, none⟩)) /\
  Z.cell? ⟨zb, 0, none⟩ = some (.int .u8 D) /\ Z.cell? ⟨zb, 1, none⟩ = some (.int .u8 U) /\ Z.cell? ⟨zb, 2, none⟩ = some (.int .u8 Ky) /\ Z.cell? ⟨zb, 3, none⟩ = some (.int .i64 N) /\ Z.cell? ⟨zr, 0, none⟩ = some (.int .i64 (r : Nat)) /\ Z.cell? ⟨zr, 1, none⟩ = some (.string t) :=
 ⟨(xqd s.1).1, (xqd s.1).2.1, (xqd s.1).2.2.1, (xqd s.1).2.2.2, (xqd s.2.1).1, (xqd s.2.1).2.1, (xqd s.2.1).2.2.1, (xqd s.2.1).2.2.2, (xqq s.2.2).1, (xqq s.2.2).2⟩
variable {w0 w w' : World} {a : Hk} {h m hx zb zr : Nat} {s1 s2 s1' s2' : List Nat} {q1 q2 q' : Qs} {O1 O2 : Nat -> Prop} {C R : Array Value}
variable {P1 P2 : Nat -> Prop}
def Gx (w0 w : World) (a : Hk) (h m hx : Nat) (s1 s2 : List Nat) (q1 q2 : Qs) (zb : Nat) (C : Array Value) (zr : Nat) (R : Array Value) (P1 P2 : Nat -> Prop) : Prop :=
 ∃ O1 O2, Bs w0 w a h m hx s1 s2 q1 q2 O1 O2 /\ Sg a h m hx zb C zr R w /\ (∀ z, P1 z -> ¬ O1 z /\ z < w.heap.size) /\ (∀ z, P2 z -> ¬ O2 z /\ z < w.heap.size)
theorem Gx.of (g : Gd w0 w a h m hx s1 s2 q1 q2 zb C zr R) : Gx w0 w a h m hx s1 s2 q1 q2 zb C zr R (fun _ => False) (fun _ => False) := by
 obtain ⟨O1, O2, b, s⟩ := g
 exact ⟨O1, O2, b, s, fun _ h => h.elim, fun _ h => h.elim⟩
theorem Gx.gd (g : Gx w0 w a h m hx s1 s2 q1 q2 zb C zr R P1 P2) : Gd w0 w a h m hx s1 s2 q1 q2 zb C zr R := by
 obtain ⟨O1, O2, b, s, -, -⟩ := g
 exact ⟨O1, O2, b, s⟩
theorem Gx.sg (g : Gx w0 w a h m hx s1 s2 q1 q2 zb C zr R P1 P2) : Sg a h m hx zb C zr R w := g.gd.sg
theorem Gx.keep (g : Gx w0 w a h m hx s1 s2 q1 q2 zb C zr R P1 P2) (k : Kept w w' []) : Gx w0 w' a h m hx s1 s2 q1 q2 zb C zr R P1 P2 := by
 obtain ⟨O1, O2, b, s, p1, p2⟩ := g
 have := k.size
 exact ⟨O1, O2, b.keep k, s.keep k, fun z h => ⟨(p1 z h).1, by have := (p1 z h).2; omega⟩, fun z h => ⟨(p2 z h).1, by have := (p2 z h).2; omega⟩⟩
theorem Gx.size (g : Gx w0 w a h m hx s1 s2 q1 q2 zb C zr R P1 P2) : w0.heap.size <= w.heap.size := by
 obtain ⟨O1, O2, b, -⟩ := g
 exact b.k0.size
theorem Gx.new (g : Gx w0 w a h m hx s1 s2 q1 q2 zb C zr R P1 P2) {z : Nat} (hz : z = w.heap.size) (k : Kept w w' []) (hl : z < w'.heap.size) : Gx w0 w' a h m hx s1 s2 q1 q2 zb C zr R (fun y => P1 y ∨ y = z) (fun y => P2 y ∨ y = z) := by
 obtain ⟨O1, O2, b, s, p1, p2⟩ := g
 have := k.size
 exact ⟨O1, O2, b.keep k, s.keep k, fun y h => h.elim (fun h => ⟨(p1 y h).1, by have := (p1 y h).2; omega⟩) (fun h => ⟨fun ho => by have := (b.ks.lt y ho).2; omega, by omega⟩),
  fun y h => h.elim (fun h => ⟨(p2 y h).1, by have := (p2 y h).2; omega⟩) (fun h => ⟨fun ho => by have := (b.ds.lt y ho).2; omega, by omega⟩)⟩
theorem Gx.c (g : Gx w0 w a h m hx s1 s2 q1 q2 zb C zr R P1 P2) : ∃ O1, KS w w0.heap.size a s1 q1 O1 /\ ∀ q' w', KPost w w0.heap.size a s1 O1 q' w' -> Gx w0 w' a h m hx s1 s2 q' q2 zb C zr R P1 (fun z => P2 z ∨ (w.heap.size <= z /\ z < w'.heap.size)) /\ (∀ (z : Nat) (o : Obj), P1 z -> w.heap[z]? = some o -> w'.heap[z]? = some o) /\ ∀ v l, RdT w v l -> RdT w' v l := by
 obtain ⟨O1, O2, b, s, p1, p2⟩ := g
 refine ⟨O1, b.ks, fun q' w' p => ?_⟩
 obtain ⟨O', b', t, lt, g⟩ := b.code p
 have sz := t.1.size
 exact ⟨⟨O', O2, b', ⟨b'.hx, g _ _ _ _ s.2.1 xqU.1, g _ _ _ _ s.2.2 xqU.2⟩, fun z h => ⟨fun ho => (t.2 z ho).elim (p1 z h).1 (fun h2 => by have := (p1 z h).2; omega), by have := (p1 z h).2; omega⟩,
  fun z h => h.elim (fun h => ⟨(p2 z h).1, by have := (p2 z h).2; omega⟩) (fun h => ⟨fun ho => by have := (b.ds.lt z ho).2; omega, h.2⟩)⟩, fun z o h e => t.1.heap (p1 z h).1 e, fun v l h => h.fo t.1 b.ks.noI⟩
theorem Gx.d (g : Gx w0 w a h m hx s1 s2 q1 q2 zb C zr R P1 P2) : ∃ O2, DS w w0.heap.size h m s2 q2 O2 /\ ∀ q' w', DPost w w0.heap.size h m s2 O2 q' w' -> Gx w0 w' a h m hx s1 s2 q1 q' zb C zr R P1 P2 /\ (∀ (z : Nat) (o : Obj), P2 z -> w.heap[z]? = some o -> w'.heap[z]? = some o) /\ (∀ v l, RdT w v l -> RdT w' v l) /\
  ∀ (B : Nat) (e : TypeId) (v : Value) (mm : List Ev), OwnK encEv w B e v mm -> (∀ g, v.ownBlock = some g -> P2 g) -> OwnK encEv w' B e v mm := by
 obtain ⟨O1, O2, b, s, p1, p2⟩ := g
 refine ⟨O2, b.ds, fun q' w' p => ?_⟩
 obtain ⟨O', b', t, lt, g⟩ := b.doc p
 have sz := t.1.size
 exact ⟨⟨O1, O', b', ⟨b'.hx, g _ _ _ _ s.2.1 xqU.1, g _ _ _ _ s.2.2 xqU.2⟩, fun z h => ⟨(p1 z h).1, by have := (p1 z h).2; omega⟩,
  fun z h => ⟨fun ho => (t.2 z ho).elim (p2 z h).1 (fun h2 => by have := (p2 z h).2; omega), by have := (p2 z h).2; omega⟩⟩, fun z o h e => t.1.heap (p2 z h).1 e, fun v l h => h.fo t.1 b.ds.noI, fun B e v mm h hp => h.fo t.1 (fun g hg => (p2 g (hp g hg)).1)⟩
theorem Gx.put (g : Gx w0 w a h m hx s1 s2 q1 q2 zb C zr R P1 P2) {z : Nat} (h1 : P1 z) (h2 : P2 z) {c : Array Value} (gz : w.heap[z]? = some (.cells c 38 (0, 0))) (hb : w0.heap.size <= z) (f : Fo (fun y => y = z) w w') : Gx w0 w' a h m hx s1 s2 q1 q2 zb C zr R P1 P2 /\ (∀ v l, RdT w v l -> RdT w' v l) := by
 obtain ⟨O1, O2, b, s, p1, p2⟩ := g
 have oi := xqK gz (by decide)
 have om : NoM w (fun k => k = z) := by
  intro k hk x y h
  subst hk
  rw [gz] at h
  cases h
 have ot : ∀ ts : List TypeId, 38 ∉ ts -> NoT w (fun k => k = z) ts := by
  intro ts ht k hk c t f h hm
  subst hk
  rw [gz] at h
  cases h
  exact ht hm
 have sz := f.size
 have far : ∀ (y : Nat) (c : Array Value) (t : TypeId), t ≠ 38 -> w.heap[y]? = some (.cells c t (0, 0)) -> w'.heap[y]? = some (.cells c t (0, 0)) := fun y c t ht e => f.heap (fun hy => by subst hy; rw [gz] at e; cases e; exact ht rfl) e
 refine ⟨⟨O1, O2, ⟨b.ks.fo f (fun k hk e => by subst e; exact (p1 k h1).1 hk) oi (ot _ (by decide)) om, b.ds.fo f (fun k hk e => by subst e; exact (p2 k h2).1 hk) oi (ot _ (by decide)), b.dis, far _ _ _ (by decide) b.hx, b.k0.foC f (fun k hk => by rw [hk]; exact hb)⟩,
  ⟨far _ _ _ (by decide) s.1, far _ _ _ (by decide) s.2.1, far _ _ _ (by decide) s.2.2⟩, fun y h => ⟨(p1 y h).1, by have := (p1 y h).2; omega⟩, fun y h => ⟨(p2 y h).1, by have := (p2 y h).2; omega⟩⟩, fun v l h => h.fo f oi⟩
variable {w0 w w' : World} {a : Hk} {h m hx zb zr : Nat} {s1 s2 s1' s2' : List Nat} {q1 q2 q' : Qs} {O1 O2 : Nat -> Prop} {C R : Array Value}
theorem Gx.made {w0 w w' : World} {a : Hk} {h m hx : Nat} {s1 s2 : List Nat} {q1 q2 : Qs} {zb : Nat} {C : Array Value} {zr : Nat} {R : Array Value} {P1 P2 : Nat -> Prop} (g : Gx w0 w a h m hx s1 s2 q1 q2 zb C zr R P1 P2) {z : Nat} {o : Obj} (hz : z = w.heap.size) (hw : w' = w.alloc o) : Gx w0 w' a h m hx s1 s2 q1 q2 zb C zr R (fun y => P1 y ∨ y = z) (fun y => P2 y ∨ y = z) /\ w'.heap[z]? = some o /\ w0.heap.size <= z /\ Kept w w' [] := by
 subst hz hw
 have k : Kept w (w.alloc o) [] := (Kept.refl w []).alloc o
 exact ⟨g.new rfl k (xqh (heap_alloc_new w o)), heap_alloc_new w o, g.size, k⟩
theorem Gx.stored {w0 w w' : World} {a : Hk} {h m hx : Nat} {s1 s2 : List Nat} {q1 q2 : Qs} {zb : Nat} {C : Array Value} {zr : Nat} {R : Array Value} {P1 P2 : Nat -> Prop} (g : Gx w0 w a h m hx s1 s2 q1 q2 zb C zr R P1 P2) {z : Nat} {c : Array Value} {us : List Value} (gz : w.heap[z]? = some (.cells c 38 (0, 0))) (hb : w0.heap.size <= z) (hw : w' = xqo w z 0 us) (hl : us.length = c.size) (h1 : P1 z) (h2 : P2 z) : Gx w0 w' a h m hx s1 s2 q1 q2 zb C zr R P1 P2 /\ w'.heap[z]? = some (.cells us.toArray 38 (0, 0)) /\ (∀ v l, RdT w v l -> RdT w' v l) /\ ∀ k o, k ≠ z -> w.heap[k]? = some o -> w'.heap[k]? = some o := by
 subst hw
 have ff : Fo (fun y => y = z) w (xqo w z 0 us) := xqu (O := fun k => k = z) _ w 0 (Fo.refl _ w) (.inl rfl)
 obtain ⟨x, r⟩ := g.put h1 h2 gz hb ff
 exact ⟨x, xqH gz hl, r, fun k o hk ho => ff.heap hk ho⟩
variable {w0 w w' : World} {a : Hk} {h m hx zb zr : Nat} {s1 s2 s1' s2' : List Nat} {q1 q2 q' : Qs} {O1 O2 : Nat -> Prop} {C R : Array Value}
variable {st : List Nat} {q : Qs} {O : Nat -> Prop} {B : Nat}
theorem lkC {P : Program} {f : FuncId} {args : Array Value} {v : Value} (c : Calls P f args w fun e w' => e = .returned v /\ w' = w) : Calls P f args w fun e w' => e = .returned v /\ Kept w w' [] := c.mono (fun e w' p => ⟨p.1, by rw [p.2]; exact Kept.refl _ _⟩)
theorem kcall_any (s : KS w B a st q O) {k : Nat} (z : SzQ k q) : Calls Tryz.prog 38 #[.pointer (some ⟨a.hc, 0, none⟩)] w fun e w' => ∃ v', e = .returned v' /\ OwnK encCu w' w.heap.size cuE v' q.cs /\ Kept w w' [] := by
 obtain ⟨b, u, d, xs, kq, g, e1, e2, rfl⟩ := s.ex
 exact call_any kq.cu (by have := z.ok.okc.few; omega)
theorem krall_any (s : KS w B a st q O) {k : Nat} (z : SzQ k q) : Calls Tryz.prog 70 #[.pointer (some ⟨a.hr, 0, none⟩)] w fun e w' => ∃ v', e = .returned v' /\ OwnK encIt w' w.heap.size rtE v' q.rs /\ Kept w w' [] := by
 obtain ⟨b, u, d, xs, kq, g, e1, e2, rfl⟩ := s.ex
 exact tall_any kq.rt (by have := z.oki.few; omega)
theorem ksall_any (s : KS w B a st q O) {k : Nat} (z : SzQ k q) (hk : k <= 1000) : Calls Tryz.prog 27 #[.pointer (some ⟨a.hs, 0, none⟩)] w fun e w' => ∃ v', e = .returned v' /\ RdE w' v' (srt byId (pre q.l 3)) /\ Kept w w' [] := by
 obtain ⟨b, u, d, xs, kq, g, e1, e2, rfl⟩ := s.ex
 exact (all_any kq.sp (z.tabs hk)).mono (fun e w' ⟨v, h1, h2, h3⟩ => ⟨v, h1, h2.rd, h3⟩)
theorem kscur_any (s : KS w B a st q O) : Calls Tryz.prog 72 #[.pointer (some ⟨a.hs, 0, none⟩)] w fun e w' => e = .returned (.int .i64 q.c) /\ Kept w w' [] := by
 obtain ⟨b, u, d, xs, kq, g, e1, e2, rfl⟩ := s.ex
 exact lkC (cur_any kq.sp)
theorem ktlast_any (s : KS w B a st q O) {k : Nat} (z : SzQ k q) : Calls Tryz.prog 41 #[.pointer (some ⟨a.ht, 0, none⟩)] w fun e w' => e = .returned (.int .i64 (xqk q.ps)) /\ Kept w w' [] := by
 obtain ⟨b, u, d, xs, kq, g, e1, e2, rfl⟩ := s.ex
 have := z.ok.okp.size
 rw [<- e1, List.length_map] at this
 rw [<- e1]
 exact xq2 kq.tk (by omega)
theorem ktlen_any (s : KS w B a st q O) : Calls Tryz.prog 73 #[.pointer (some ⟨a.ht, 0, none⟩)] w fun e w' => e = .returned (.int .i64 q.ps.length) /\ Kept w w' [] := by
 obtain ⟨b, u, d, xs, kq, g, e1, e2, rfl⟩ := s.ex
 rw [<- e1, List.length_map]
 exact lkC (yqc kq.tk)
theorem dsall_any (s : DS w B h m st q O) {k : Nat} (z : SzQ k q) (hk : k <= 1000) : Calls Tryz.prog 71 #[.pointer (some ⟨h, 1, none⟩)] w fun e w' => ∃ v', e = .returned v' /\ RdE w' v' (srt byId (pre q.l 3)) /\ Kept w w' [] := by
 obtain ⟨d, v, xs, kq, e0, e1, e2, e3, rfl⟩ := s.ex
 exact (rall_any kq.dq.spools (z.tabs hk) (by rw [pre_lenN]; have := z.len; omega)).mono (fun e w' ⟨v, h1, h2, h3⟩ => ⟨v, h1, h2.rd, h3⟩)
theorem qcu_ne (a : ByteArray) (b c : Int) (w : World) : (binOp .neq 87 (.agg #[.string a, .int .i64 b, .int .i64 c]) (.agg #[.string a, .int .i64 b, .int .i64 c])).run Tryz.prog w = .ok (.bool false) w := by
 rw [run_neq_struct]
 go_simp
theorem DS.look (s : DS w B h m st q O) : ∃ ut ct uc cc ur cr, ∀ Z, Kept w Z [] -> (Z.cell? ⟨h, 5, none⟩ = some (.slice ut q.ps.length ct) /\ Z.cell? ⟨h, 7, none⟩ = some (.slice uc q.cs.length cc) /\ Z.cell? ⟨h, 8, none⟩ = some (.slice ur q.rs.length cr) /\ OwnK encCu Z B rcE (.slice uc q.cs.length cc) q.cs) := by
 obtain ⟨d, v, xs, kq, e0, e1, e2, e3, rfl⟩ := s.ex
 obtain ⟨ut, ct, h1⟩ := kq.dq.tk.shape
 obtain ⟨uc, cc, h2⟩ := kq.dq.cu.shape
 obtain ⟨ur, cr, h3⟩ := kq.dq.rt.shape
 refine ⟨ut, ct, uc, cc, ur, cr, fun Z k => ?_⟩
 have D := kq.dq.keep k
 have l1 : q.ps.length = xs.length := by rw [<- e1, List.length_map]
 rw [l1, <- h1, <- h2, <- h3]
 exact ⟨(D.cell (i := 5) rfl).1, (D.cell (i := 7) rfl).1, (D.cell (i := 8) rfl).1, D.cu⟩
end Go.Proofs.YticiofkiffgclaaGreat
