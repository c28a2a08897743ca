/-
 Bi, Dqa, Dqb, Dqc, Dqd in one text.
-/
import Derived.Test.YticiofkiffgclaaGreatQu0
import Derived.Test.YticiofkiffgclaaGreatQu27
import Derived.Test.YticiofkiffgclaaGreatQu20
import Derived.Test.YticiofkiffgclaaGreatQu26
import Derived.Test.YticiofkiffgclaaGreatQu6
import Derived.Test.YticiofkiffgclaaGreatQu10
set_option linter.unusedVariables false
set_option maxHeartbeats 16000000
set_option maxRecDepth 100000
namespace Go.Proofs.YticiofkiffgclaaGreat
open Go.RowKit Go.Maps
def NdS (V : World) (z b o : Nat) (x M : Int) (v : Value) : Prop :=
 (V.cell? ⟨z, 1, none⟩ = some (.int .i64 x) /\ V.cell? ⟨b, o, none⟩ = some (.int .i64 M)) /\ V.cell? ⟨b, o + 1, none⟩ = some v
theorem NdS.keep {w w' : World} {z b o : Nat} {x M : Int} {v : Value} (k : Kept w w' []) (f : NdS w z b o x M v) : NdS w' z b o x M v :=
 ⟨⟨k.cell (by simp) f.1.1, k.cell (by simp) f.1.2⟩, k.cell (by simp) f.2⟩
theorem any_of {ss : List Sv} {e : Ev} {i : Nat} {s : Sv} (hs : ss[i]? = some s) (h : xqv s.M s.l e.tx = false) : (ss.any fun s => !xqv s.M s.l e.tx) = true :=
 List.any_eq_true.2 ⟨s, List.mem_of_getElem? hs, by simp [h]⟩
theorem any_no {ss : List Sv} {e : Ev} (h : ∀ (j : Nat) s, j < ss.length -> ss[j]? = some s -> xqv s.M s.l e.tx = true) : (ss.any fun s => !xqv s.M s.l e.tx) = false := by
 rw [List.any_eq_false]
 intro s hs
 obtain ⟨j, hj, rfl⟩ := List.mem_iff_getElem.1 hs
 simp [h j _ hj (List.getElem?_eq_getElem hj)]
theorem rneeds_any {w : World} {u sv : Value} {ss : List Sv} {st : List Nat} (e : Ev) (hM : RMan w u st) (hs : RdS w sv ss) (hl : ss.length < 1000000) :
 Calls Tryz.prog 172 #[.agg e.cs, u, sv] w fun r w' => r = .returned (.bool (yqq st ss e)) /\ Kept w w' [] := by
 obtain ⟨W1, hW1⟩ : ∃ W1, W1 = w.alloc (.cells e.cs 50) := ⟨_, rfl⟩
 have k1 : Kept w W1 [] := by rw [hW1]; exact (Kept.refl w []).alloc _
 have g1 : W1.heap[w.heap.size]? = some (.cells e.cs 50 (0, 0)) := by rw [hW1]; exact heap_alloc_new w _
 have HS := iH (hs.keep k1)
 have CS := iH (fun W (k : Kept W1 W []) => hM e.tx W (k1.trans k (by simp)))
 obtain ⟨a, cp, rfl, _⟩ := hs
 obtain ⟨n, hn⟩ : ∃ n, n = ss.length := ⟨_, rfl⟩
 have HN := iH hn
 rw [<- hn] at hl ⊢
 obtain ⟨s0, hs0⟩ : ∃ s, stAt st e.tx = s := ⟨_, rfl⟩
 have R1 : RowKit.Hid (s0 = 1 -> yqq st ss e = true) := iH (fun h => by simp [yqq, hs0, h])
 have R2 : RowKit.Hid (s0 = 2 -> yqq st ss e = ss.any fun s => !xqv s.M s.l e.tx) := iH (fun h => by simp [yqq, hs0, h])
 have R3 : RowKit.Hid (s0 ≠ 1 -> s0 ≠ 2 -> yqq st ss e = false) := iH (fun h h2 => by simp [yqq, hs0, h, h2])
 simp only [hs0] at CS
 have K1 := iH k1; have HW1 := iH hW1; have G1 := iH g1
 have G1' := iH (fun V (k : Kept W1 V []) => k.heap (by simp) g1)
 generalize yqq st ss e = y at R1 R2 R3 ⊢
 obtain ⟨b0, b1, b2, b3, b4, b5, b6, b7⟩ := e
 obtain ⟨q0, q1, q2, q3, q4, q5, q6, q7⟩ := xqm g1
 simp only [Ev.cs] at CS HW1 G1 G1' R2 ⊢
 have hS := iH (CS.out W1 (Kept.refl _ _))
 clear hM hn hW1 k1 g1 hs0
 go_enter Tryz.func172, Tryz.ntmps172
 go_upto_region 1 with fail
 rw [<- HW1.out]
 go_wp2_with fail
 refine hS.out.mono ?_
 rintro r w2 ⟨rfl, rfl⟩
 by_cases h1 : s0 = 1
 ·have Y := R1.out h1
  subst h1
  go_wp2
  go_ret
  exact ⟨by rw [Y]; rfl, K1.out⟩
 ·have e1 : ((s0 : Int) == 1) = false := by rw [beq_eq_false_iff_ne]; omega
  have H1 := iH h1
  clear h1 q0 q1 q2 q3 q4 q5 q6 q7
  by_cases h2 : s0 = 2
  ·have Y := iH (R2.out h2)
   subst h2
   go_wp2
   go_loopg [7] n (fun kx s7 wr => ∃ i : Nat, s7 = .int .i64 i /\ i <= n /\ n - i <= kx /\ RowKit.Hid (Kept W1 wr [] /\ ∀ (j : Nat) s, j < i -> ss[j]? = some s -> xqv s.M s.l b1 = true))
   case atStart => exact ⟨0, rfl, by omega, by omega, Kept.refl _ _, fun j s h => absurd h (Nat.not_lt_zero _)⟩
   case round =>
   obtain ⟨i, rfl, hi, hkx, HK⟩ := hrel
   by_cases hlt : i < n
   ·have x1 : (i : Int) < (n : Int) := by omega
    obtain ⟨s, hs⟩ : ∃ s, ss[i]? = some s := ⟨_, List.getElem?_eq_getElem (by rw [<- HN.out]; exact hlt)⟩
    obtain ⟨a', c', e', f1, f2⟩ := HS.out.keep HK.out.1
    simp only [Value.slice.injEq, true_and] at e'
    obtain ⟨rfl, _, rfl⟩ := e'
    obtain ⟨b, o, rfl, c0, c1⟩ := f1 i s hs
    have rv := f2 s (List.mem_of_getElem? hs)
    have HSI := iH hs
    obtain ⟨M, v, m⟩ := s
    simp only at c0 c1 rv
    have RV := iH rv
    obtain ⟨va, vc, hv, _⟩ := rv
    subst hv
    obtain ⟨q, hq⟩ : ∃ q, xqv M m b1 = q := ⟨_, rfl⟩
    have HQ := iH hq
    have k8 : Kept wr wr.drew [] := (Kept.refl wr []).drew
    have y0 : NdS wr w.heap.size b (o + i * 2) b1 M (.slice va m.length vc) := ⟨⟨(xqm (G1'.out wr HK.out.1)).2.1, c0⟩, c1⟩
    have HY := iH y0
    have y2 := NdS.keep k8 y0
    have CT : RowKit.Hid (∀ V, Kept wr V [] -> Calls Tryz.prog 32 #[u, .int .i64 b1] V fun e w' => e = .returned (.int .u8 ((2 : Nat) : Int)) /\ V = w') := iH (fun V hV => CS.out V (HK.out.1.trans hV (by simp)))
    have CO : RowKit.Hid (∀ V, Kept wr V [] -> Calls Tryz.prog 34 #[.agg #[.int .i64 M, .slice va m.length vc], .int .i64 b1] V fun e w' => e = .returned (.bool q) /\ Kept wr w' []) := iH (fun V hV => by
     rw [<- HQ.out]; exact (rsees_any M b1 _ m V (RV.out.keep hV)).mono (fun _ _ h => ⟨h.1, hV.trans h.2 (by simp)⟩))
    unfold NdS at y2
    have lz := World.block_lt_of_cell? wr _ y0.1.1
    clear hs f1 f2 c0 c1 hq y0
    go_wp2_with fail
    go_region_held3 (fun V => (V.cell? ⟨w.heap.size, 1, none⟩ = some (.int .i64 b1) /\ V.cell? ⟨b, o + i * 2, none⟩ = some (.int .i64 M)) /\ V.cell? ⟨b, o + i * 2 + 1, none⟩ = some (.slice va m.length vc)) (exact y2)
     (first
      | (go_at_call 32; refine (CT.out _ ?_).mono ?_; exact k8; rintro e w8 ⟨rfl, rfl⟩)
      | (go_at_call 34; refine (CO.out _ ?_).mono ?_; exact k8; rintro e w8 ⟨rfl, k8⟩; have y2 := NdS.keep k8 HY.out; unfold NdS at y2))
    have K8 := iH k8
    clear y2 k8
    cases q
    ·have Y2 := iH (Y.out.trans (any_of (e := ⟨b0, b1, b2, b3, b4, b5, b6, b7⟩) HSI.out HQ.out))
     go_wp2
     go_ret
     exact ⟨by rw [Y2.out]; rfl, K1.out.trans (HK.out.1.trans K8.out (by simp)) (by simp)⟩
    go_wp2
    go_roundg (n - (i + 1))
    case measure => omega
    case rel =>
    refine ⟨i + 1, by go_num, by omega, by omega, HK.out.1.trans K8.out (by simp), fun j s hj hs => ?_⟩
    by_cases e : j = i
    ·subst e
     rw [HSI.out] at hs
     cases hs
     exact HQ.out
    exact HK.out.2 j s (by omega) hs
   have x1 : ¬ (i : Int) < (n : Int) := by omega
   have Y2 : y = false := by
    rw [Y.out]; exact any_no (e := ⟨b0, b1, b2, b3, b4, b5, b6, b7⟩) (fun j s hj hs => HK.out.2 j s (by have := HN.out; omega) hs)
   go_wp2
   go_ret
   exact ⟨rfl, K1.out.trans HK.out.1 (by simp)⟩
  have Y := iH (R3.out H1.out h2)
  have e2 : ((s0 : Int) == 2) = false := by rw [beq_eq_false_iff_ne]; omega
  clear h2
  go_wp2
  go_loopg [7] n (fun kx s7 wr => ∃ i : Nat, s7 = .int .i64 i /\ i <= n /\ n - i <= kx /\ RowKit.Hid (Kept W1 wr []))
  case atStart => exact ⟨0, rfl, by omega, by omega, Kept.refl _ _⟩
  case round =>
  obtain ⟨i, rfl, hi, hkx, HK⟩ := hrel
  by_cases hlt : i < n
  ·have x1 : (i : Int) < (n : Int) := by omega
   have q1 := (xqm (G1'.out wr HK.out)).2.1
   have CQ : RowKit.Hid (∀ k, Calls Tryz.prog 32 #[u, .int .i64 b1] (wr.drewN k) fun e w' => e = .returned (.int .u8 s0) /\ w' = wr.drewN k) := iH (fun k => (CS.out _ (HK.out.drewN k)).mono fun _ _ h => ⟨h.1, h.2.symm⟩)
   go_wp2_with fail
   go_quiet ((go_at_call 32; exact Calls.quiet_of_same (CQ.out _)))
   have KN := iH (HK.out.drewN nq)
   clear q1 CQ
   generalize wr.drewN nq = wn at KN ⊢
   go_wp2
   go_roundg (n - (i + 1))
   case measure => omega
   case rel => exact ⟨i + 1, by go_num, by omega, by omega, KN⟩
  have x1 : ¬ (i : Int) < (n : Int) := by omega
  go_wp2
  go_ret
  exact ⟨by rw [Y.out]; rfl, K1.out.trans HK.out (by simp)⟩
theorem free_no {st : List Nat} {ss : List Sv} {l : List Ev} {i : Nat} {e : Ev} (he : l[i]? = some e) (h : yqq st ss e = true) : freeB st ss l = false := by
 have : l.any (yqq st ss) = true := List.any_eq_true.2 ⟨e, List.mem_of_getElem? he, h⟩
 simp [freeB, this]
theorem free_yes {st : List Nat} {ss : List Sv} {l : List Ev} (h : ∀ (j : Nat) e, j < l.length -> l[j]? = some e -> yqq st ss e = false) : freeB st ss l = true := by
 have : l.any (yqq st ss) = false := by
  rw [List.any_eq_false]
  intro e he
  obtain ⟨j, hj, rfl⟩ := List.mem_iff_getElem.1 he
  simp [h j _ hj (List.getElem?_eq_getElem hj)]
 simp [freeB, this]
theorem rfree_any {w : World} {u v sv : Value} {ss : List Sv} {st : List Nat} {l : List Ev} (hv : RdE w v l) (hn : l.length < 1000000) (hM : RMan w u st) (hs : RdS w sv ss) (hl : ss.length < 1000000) :
 Calls Tryz.prog 127 #[v, u, sv] w fun r w' => r = .returned (.bool (freeB st ss l)) /\ Kept w w' [] := by
 have HM := iH hM; have HS := iH hs
 obtain ⟨va, vc, rfl⟩ := hv.shape3
 have HV := iH hv
 obtain ⟨a, cp, rfl, _⟩ := hs
 obtain ⟨n, hn2⟩ : ∃ n, n = l.length := ⟨_, rfl⟩
 have HN := iH hn2
 rw [<- hn2] at hn ⊢
 have HL := iH hl
 generalize hm : ss.length = m at HL
 have HMm := iH hm
 clear hv hM hl hn2 hm
 go_enter Tryz.func127, Tryz.ntmps127
 go_wp2
 go_loopg [7] n (fun kx s7 wr => ∃ i : Nat, s7 = .int .i64 i /\ i <= n /\ n - i <= kx /\ RowKit.Hid (Kept w wr [] /\ ∀ (j : Nat) e, j < i -> l[j]? = some e -> yqq st ss e = false))
 case atStart => exact ⟨0, rfl, by omega, by omega, Kept.refl _ _, fun j s h => absurd h (Nat.not_lt_zero _)⟩
 case round =>
  obtain ⟨i, rfl, hi, hkx, HK⟩ := hrel
  by_cases hlt : i < n
  ·have x1 : (i : Int) < (n : Int) := by omega
   obtain ⟨e, he⟩ : ∃ e, l[i]? = some e := ⟨_, List.getElem?_eq_getElem (by rw [<- HN.out]; exact hlt)⟩
   have ev := HV.out.kept HK.out.1 (by simp)
   rw [<- HN.out] at ev
   obtain ⟨b, o, rfl, p0, p1, p2, p3, p4, p5, p6, p7⟩ := ev.eight he
   have call := iH (rneeds_any e (HM.out.keep HK.out.1) (HS.out.keep HK.out.1) (by rw [HMm.out]; exact HL.out))
   have HE := iH he
   obtain ⟨y, hy⟩ : ∃ y, yqq st ss e = y := ⟨_, rfl⟩
   rw [hy, HMm.out] at call
   have HY := iH hy
   obtain ⟨b0, b1, b2, b3, b4, b5, b6, b7⟩ := e
   simp only [Ev.cs] at p0 p1 p2 p3 p4 p5 p6 p7 call
   clear he ev hy
   go_wp2_with fail
   refine call.out.mono ?_
   rintro r w2 ⟨rfl, k2⟩
   have K2 := iH (HK.out.1.trans k2 (by simp))
   clear k2 p0 p1 p2 p3 p4 p5 p6 p7 call
   cases y
   ·go_wp2
    go_roundg (n - (i + 1))
    case measure => omega
    case rel =>
    refine ⟨i + 1, by go_num, by omega, by omega, K2.out, fun j s hj hs => ?_⟩
    by_cases e : j = i
    ·subst e
     rw [HE.out] at hs
     cases hs
     exact HY.out
    exact HK.out.2 j s (by omega) hs
   go_wp2
   go_ret
   exact ⟨by rw [free_no HE.out HY.out]; rfl, K2.out⟩
  have x1 : ¬ (i : Int) < (n : Int) := by omega
  go_wp2
  go_ret
  exact ⟨by rw [free_yes (fun j e hj he => HK.out.2 j e (by have := HN.out; omega) he)]; rfl, HK.out.1⟩
end Go.Proofs.YticiofkiffgclaaGreat
namespace Go.Proofs.YticiofkiffgclaaGreat
open Go.RowKit
structure Dv where
 mp : Value
 V : Nat -> Value
 c : Nat
 VT : Value
 u : Value
 VC : Value
 VR : Value
 nx : Value
def Dv.R (d : Dv) : List Value := [d.mp, d.V 0, d.V 1, d.V 2, .int .i64 d.c, d.VT, d.u, d.VC, d.VR, d.nx]
def xqI (h : Nat) (d : Dv) : Nat -> Prop := fun k => xqy h d.V k ∨ d.VT.ownBlock = some k ∨ d.VC.ownBlock = some k ∨ d.VR.ownBlock = some k
structure Dq (T : TypeId) (w : World) (B h : Nat) (d : Dv) (l : Nat -> List Ev) (xs : List Tk) (cs : List Cu) (rs : List It) : Prop where
 hh : w.heap[h]? = some (.cells d.R.toArray T (0, 0))
 bh : B <= h
 hT : T ≠ 50 /\ T ≠ 38 /\ T ≠ 2 /\ T ≠ rcE /\ T ≠ riE
 c3 : d.c < 3
 ev : ∀ i, i < 3 -> OwnE w B 50 (d.V i) (l i)
 tk : OwnT w B 38 d.VT xs
 tr : ∀ x ∈ xs, RdT w x.op x.l
 cu : OwnK encCu w B rcE d.VC cs
 rt : RdK encIt w d.VR rs
 rg : ∀ k, d.VR.ownBlock = some k -> B <= k /\ ∃ cur, w.heap[k]? = some (.cells cur riE (0, 0))
variable {T : TypeId} {w w' : World} {B h : Nat} {d : Dv} {l : Nat -> List Ev} {xs : List Tk} {cs : List Cu} {rs : List It}
theorem xqA {w : World} {k : Nat} {c1 c2 : Array Value} {t1 t2 : TypeId} {f1 f2 : Nat × Nat} (x : w.heap[k]? = some (.cells c1 t1 f1)) (y : w.heap[k]? = some (.cells c2 t2 f2)) : t1 = t2 := by
 rw [x] at y
 simp only [Option.some.injEq, Obj.cells.injEq] at y
 exact y.2.1
theorem Dq.types (a : Dq T w B h d l xs cs rs) {k : Nat} :
 (xqy h d.V k -> ∃ c t f, w.heap[k]? = some (.cells c t f) /\ (t = T ∨ t = 50)) /\ (d.VT.ownBlock = some k -> ∃ c, w.heap[k]? = some (.cells c 38 (0, 0))) /\
 (d.VC.ownBlock = some k -> ∃ c, w.heap[k]? = some (.cells c rcE (0, 0))) /\ (d.VR.ownBlock = some k -> ∃ c, w.heap[k]? = some (.cells c riE (0, 0))) := by
 refine ⟨?_, fun hk => a.tk.tag hk, fun hk => a.cu.tag hk, fun hk => (a.rg k hk).2⟩
 rintro (rfl | ⟨i, hi, hk⟩)
 ·exact ⟨_, _, _, a.hh, .inl rfl⟩
 ·obtain ⟨c, hc⟩ := (a.ev i hi).tag hk
  exact ⟨_, _, _, hc, .inr rfl⟩
theorem Dq.lt (a : Dq T w B h d l xs cs rs) : ∀ k, xqI h d k -> B <= k /\ k < w.heap.size := by
 rintro k ((rfl | ⟨i, hi, hk⟩) | hk | hk | hk)
 ·exact ⟨a.bh, xqh a.hh⟩
 ·exact (a.ev i hi).lt k hk
 ·exact a.tk.lt k hk
 ·exact a.cu.lt k hk
 obtain ⟨h1, c, h2⟩ := a.rg k hk
 exact ⟨h1, xqh h2⟩
theorem Dq.noI (a : Dq T w B h d l xs cs rs) : NoI w (xqI h d) := by
 rintro k hk c fz hg
 rcases hk with hk | hk | hk | hk
 ·obtain ⟨c2, t, f, h1, ht⟩ := a.types.1 hk
  have := xqA h1 hg
  rcases ht with rfl | rfl
  ·exact a.hT.2.2.1 this
  exact absurd this (by decide)
 ·obtain ⟨c2, h1⟩ := a.types.2.1 hk
  exact absurd (xqA h1 hg) (by decide)
 ·obtain ⟨c2, h1⟩ := a.types.2.2.1 hk
  exact absurd (xqA h1 hg) (by decide)
 obtain ⟨c2, h1⟩ := a.types.2.2.2 hk
 exact absurd (xqA h1 hg) (by decide)
theorem Dq.apart (a : Dq T w B h d l xs cs rs) {k : Nat} : (d.VT.ownBlock = some k -> ¬ xqy h d.V k) /\ (d.VC.ownBlock = some k -> ¬ xqy h d.V k /\ ¬ d.VT.ownBlock = some k) /\ (d.VR.ownBlock = some k -> ¬ xqy h d.V k /\ ¬ d.VT.ownBlock = some k /\ ¬ d.VC.ownBlock = some k) := by
 have s : ∀ {t : TypeId} {c : Array Value}, w.heap[k]? = some (.cells c t (0, 0)) -> T ≠ t -> 50 ≠ t -> ¬ xqy h d.V k := by
  intro t c hc h1 h2 hs
  obtain ⟨c2, t2, f, h3, ht⟩ := a.types.1 hs
  have := xqA h3 hc
  rcases ht with rfl | rfl
  ·exact h1 this
  exact h2 this
 refine ⟨fun hk => ?_, fun hk => ⟨?_, fun h2 => ?_⟩, fun hk => ⟨?_, fun h2 => ?_, fun h2 => ?_⟩⟩
 ·obtain ⟨c, hc⟩ := a.types.2.1 hk
  exact s hc a.hT.2.1 (by decide)
 ·obtain ⟨c, hc⟩ := a.types.2.2.1 hk
  exact s hc a.hT.2.2.2.1 (by decide)
 ·obtain ⟨c, hc⟩ := a.types.2.2.1 hk
  obtain ⟨c2, hc2⟩ := a.types.2.1 h2
  exact absurd (xqA hc hc2) (by decide)
 ·obtain ⟨c, hc⟩ := a.types.2.2.2 hk
  exact s hc a.hT.2.2.2.2 (by decide)
 ·obtain ⟨c, hc⟩ := a.types.2.2.2 hk
  obtain ⟨c2, hc2⟩ := a.types.2.1 h2
  exact absurd (xqA hc hc2) (by decide)
 obtain ⟨c, hc⟩ := a.types.2.2.2 hk
 obtain ⟨c2, hc2⟩ := a.types.2.2.1 h2
 exact absurd (xqA hc hc2) (by decide)
theorem Dq.notH (a : Dq T w B h d l xs cs rs) : d.VT.ownBlock ≠ some h /\ d.VC.ownBlock ≠ some h /\ d.VR.ownBlock ≠ some h :=
 ⟨fun e => a.apart.1 e (.inl rfl), fun e => (a.apart.2.1 e).1 (.inl rfl), fun e => (a.apart.2.2 e).1 (.inl rfl)⟩
theorem Dq.fo (a : Dq T w B h d l xs cs rs) {O : Nat -> Prop} (hf : Fo O w w') (hd : ∀ k, xqI h d k -> ¬ O k) (hn : NoI w O) : Dq T w' B h d l xs cs rs :=
 ⟨hf.heap (hd h (.inl (.inl rfl))) a.hh, a.bh, a.hT, a.c3, fun i hi => (a.ev i hi).fo hf (fun g hg => hd g (.inl (.inr ⟨i, hi, hg⟩))), a.tk.fo hf (fun g hg => hd g (.inr (.inl hg))), fun x hx => (a.tr x hx).fo hf hn, a.cu.fo hf (fun g hg => hd g (.inr (.inr (.inl hg)))), a.rt.fo hf (fun g hg => hd g (.inr (.inr (.inr hg)))), fun k hk => by
  obtain ⟨h1, c, h2⟩ := a.rg k hk
  exact ⟨h1, c, hf.heap (hd k (.inr (.inr (.inr hk)))) h2⟩⟩
theorem Dq.keep (a : Dq T w B h d l xs cs rs) (hk : Kept w w' []) : Dq T w' B h d l xs cs rs := a.fo (Fo.ofKept hk (fun _ => False)) (fun _ _ h => h) (NoI.none w)
theorem Dq.cell (a : Dq T w B h d l xs cs rs) {i : Nat} {v : Value} (hv : d.R[i]? = some v) : w.cell? ⟨h, i, none⟩ = some v /\ w.frozen? ⟨h, i, none⟩ = false :=
 ⟨by rw [cell_of_row _ _ _ _ _ _ a.hh]; simpa using hv, frozen_of_row _ _ _ _ _ a.hh⟩
def Dv.FS (d : Dv) : Nat -> Option Value := fun j => d.R[j]?
theorem Dq.spools (a : Dq T w B h d l xs cs rs) : So T d.FS w B h 1 d.V l d.c :=
 ⟨⟨d.R, a.hh, fun i hi => by
  match i, hi with
  | 0, _ => rfl
  | 1, _ => rfl
  | 2, _ => rfl, rfl, fun j hj => rfl⟩, a.bh, a.hT.1, a.c3, a.ev⟩
theorem Dq.ofSpools (a : Dq T w B h d l xs cs rs) {V' : Nat -> Value} {l' : Nat -> List Ev} {c' : Nat} (s : So T d.FS w' B h 1 V' l' c') (st : Stp (xqy h d.V) (xqy h V') w w') :
 Dq T w' B h { d with V := V', c := c' } l' xs cs rs /\ Stp (xqI h d) (xqI h { d with V := V', c := c' }) w w' := by
 obtain ⟨R, r0, r1, r2, r3⟩ := s.hr
 have hf := st.1
 have hn : NoI w (xqy h d.V) := fun k hk => a.noI k (.inl hk)
 have e : R = Dv.R { d with V := V', c := c' } := by
  apply List.ext_getElem?
  intro j
  rcases Nat.lt_or_ge j 10 with hj | hj
  ·have : j = 0 ∨ j = 1 ∨ j = 2 ∨ j = 3 ∨ j = 4 ∨ j = 5 ∨ j = 6 ∨ j = 7 ∨ j = 8 ∨ j = 9 := by omega
   rcases this with rfl | rfl | rfl | rfl | rfl | rfl | rfl | rfl | rfl | rfl
   ·exact r3 0 (.inl (by omega))
   ·exact r1 0 (by omega)
   ·exact r1 1 (by omega)
   ·exact r1 2 (by omega)
   ·exact r2
   ·exact r3 5 (.inr (by omega))
   ·exact r3 6 (.inr (by omega))
   ·exact r3 7 (.inr (by omega))
   ·exact r3 8 (.inr (by omega))
   exact r3 9 (.inr (by omega))
  rw [r3 j (.inr (by omega))]
  show d.R[j]? = _
  rw [List.getElem?_eq_none (by simpa [Dv.R] using hj), List.getElem?_eq_none (by simpa [Dv.R] using hj)]
 rw [e] at r0
 refine ⟨⟨r0, a.bh, a.hT, s.c3, s.own, a.tk.fo hf (fun g hg => a.apart.1 hg), fun x hx => (a.tr x hx).fo hf hn, a.cu.fo hf (fun g hg => (a.apart.2.1 hg).1), a.rt.fo hf (fun g hg => (a.apart.2.2 hg).1), fun k hk => ?_⟩, hf.mono (fun k hk => .inl hk), ?_⟩
 ·obtain ⟨h1, c, h2⟩ := a.rg k hk
  exact ⟨h1, c, hf.heap ((a.apart.2.2 hk).1) h2⟩
 ·rintro k (hk | hk)
  ·exact (st.2 k hk).imp (fun h => .inl h) id
  exact .inl (.inr hk)
theorem Dq.ticks (a : Dq T w B h d l xs cs rs) : To T d.FS d.u w B h 5 d.VT xs :=
 ⟨⟨d.R, a.hh, rfl, rfl, fun j _ _ => rfl⟩, a.bh, ⟨a.hT.2.1, a.hT.2.2.1⟩, a.tk, a.tr⟩
theorem Dq.ofTicks (a : Dq T w B h d l xs cs rs) {u' VT' : Value} {xs' : List Tk} (s : To T d.FS u' w' B h 5 VT' xs') (st : Stp (xqx h d.VT) (xqx h VT') w w') :
 Dq T w' B h { d with VT := VT', u := u' } l xs' cs rs /\ Stp (xqI h d) (xqI h { d with VT := VT', u := u' }) w w' := by
 obtain ⟨R, r0, r1, r2, r3⟩ := s.hr
 have hf := st.1
 have e : R = Dv.R { d with VT := VT', u := u' } := by
  apply List.ext_getElem?
  intro j
  rcases Nat.lt_or_ge j 10 with hj | hj
  ·have : j = 0 ∨ j = 1 ∨ j = 2 ∨ j = 3 ∨ j = 4 ∨ j = 5 ∨ j = 6 ∨ j = 7 ∨ j = 8 ∨ j = 9 := by omega
   rcases this with rfl | rfl | rfl | rfl | rfl | rfl | rfl | rfl | rfl | rfl
   ·exact r3 0 (by omega) (by omega)
   ·exact r3 1 (by omega) (by omega)
   ·exact r3 2 (by omega) (by omega)
   ·exact r3 3 (by omega) (by omega)
   ·exact r3 4 (by omega) (by omega)
   ·exact r1
   ·exact r2
   ·exact r3 7 (by omega) (by omega)
   ·exact r3 8 (by omega) (by omega)
   exact r3 9 (by omega) (by omega)
  rw [r3 j (by omega) (by omega)]
  show d.R[j]? = _
  rw [List.getElem?_eq_none (by simpa [Dv.R] using hj), List.getElem?_eq_none (by simpa [Dv.R] using hj)]
 rw [e] at r0
 have nt : ∀ k, xqy h d.V k -> k ≠ h -> ¬ xqx h d.VT k := by
  rintro k hs hne (e | e)
  ·exact hne e
  exact a.apart.1 e hs
 refine ⟨⟨r0, a.bh, a.hT, a.c3, fun i hi => (a.ev i hi).fo hf (fun g hg => nt g (.inr ⟨i, hi, hg⟩) (fun e => by subst e; exact (a.ev i hi).apart a.hh a.hT.1 hg)), s.own, s.rd, a.cu.fo hf (fun g hg hk => ?_), a.rt.fo hf (fun g hg hk => ?_), fun k hk => ?_⟩, hf.mono (fun k hk => hk.imp (fun h => .inl h) (fun h => .inl h)), ?_⟩
 ·rcases hk with rfl | hk
  ·exact a.notH.2.1 hg
  exact (a.apart.2.1 hg).2 hk
 ·rcases hk with rfl | hk
  ·exact a.notH.2.2 hg
  exact (a.apart.2.2 hg).2.1 hk
 ·obtain ⟨h1, c, h2⟩ := a.rg k hk
  refine ⟨h1, c, hf.heap ?_ h2⟩
  rintro (rfl | e)
  ·exact a.notH.2.2 hk
  exact (a.apart.2.2 hk).2.1 e
 ·rintro k (hk | hk | hk)
  ·exact .inl (.inl hk)
  ·exact (st.2 k (.inr hk)).imp (fun h => h.imp (fun h => .inl h) (fun h => .inl h)) id
  exact .inl (.inr (.inr hk))
theorem Dq.cursors (a : Dq T w B h d l xs cs rs) : Lw encCu T rcE w B h 7 d.R d.VC cs := ⟨a.hh, rfl, a.bh, a.hT.2.2.2.1, a.cu⟩
theorem Dq.ofCursors (a : Dq T w B h d l xs cs rs) {VC' : Value} {cs' : List Cu} (s : Lw encCu T rcE w' B h 7 (d.R.set 7 VC') VC' cs') (st : Stp (xqJ h d.VC) (xqJ h VC') w w') :
 Dq T w' B h { d with VC := VC' } l xs cs' rs /\ Stp (xqI h d) (xqI h { d with VC := VC' }) w w' := by
 have hf := st.1
 have r0 := s.hh
 have hn : NoI w (xqJ h d.VC) := by
  rintro k (rfl | hk)
  ·exact a.noI k (.inl (.inl rfl))
  exact a.noI k (.inr (.inr (.inl hk)))
 have nc : ∀ k, xqJ h d.VC k -> k ≠ h -> d.VC.ownBlock = some k := by
  rintro k (e | e) hne
  ·exact absurd e hne
  exact e
 refine ⟨⟨r0, a.bh, a.hT, a.c3, fun i hi => (a.ev i hi).fo hf (fun g hg hk => ?_), a.tk.fo hf (fun g hg hk => ?_), fun x hx => (a.tr x hx).fo hf hn, s.own, a.rt.fo hf (fun g hg hk => ?_), fun k hk => ?_⟩, hf.mono (fun k hk => hk.imp (fun h => .inl h) (fun h => .inr (.inl h))), ?_⟩
 ·have hne : g ≠ h := fun e => by subst e; exact (a.ev i hi).apart a.hh a.hT.1 hg
  exact (a.apart.2.1 (nc g hk hne)).1 (.inr ⟨i, hi, hg⟩)
 ·have hne : g ≠ h := fun e => by subst e; exact a.notH.1 hg
  exact (a.apart.2.1 (nc g hk hne)).2 hg
 ·have hne : g ≠ h := fun e => by subst e; exact a.notH.2.2 hg
  exact (a.apart.2.2 hg).2.2 (nc g hk hne)
 ·obtain ⟨h1, c, h2⟩ := a.rg k hk
  refine ⟨h1, c, hf.heap (fun hk2 => ?_) h2⟩
  have hne : k ≠ h := fun e => by subst e; exact a.notH.2.2 hk
  exact (a.apart.2.2 hk).2.2 (nc k hk2 hne)
 ·rintro k (hk | hk | hk | hk)
  ·exact .inl (.inl hk)
  ·exact .inl (.inr (.inl hk))
  ·exact (st.2 k (.inr hk)).imp (fun h => h.imp (fun h => .inl h) (fun h => .inr (.inl h))) id
  exact .inl (.inr (.inr (.inr hk)))
theorem Dq.retries (a : Dq T w B h d l xs cs rs) : Lo encIt T riE w B h 8 d.R d.VR rs := ⟨a.hh, rfl, a.bh, a.hT.2.2.2.2, a.rt, a.rg⟩
theorem Dq.ofRetries (a : Dq T w B h d l xs cs rs) {VR' : Value} {rs' : List It} (s : Lo encIt T riE w' B h 8 (d.R.set 8 VR') VR' rs') (st : Stp (xqJ h d.VR) (xqJ h VR') w w') :
 Dq T w' B h { d with VR := VR' } l xs cs rs' /\ Stp (xqI h d) (xqI h { d with VR := VR' }) w w' := by
 have hf := st.1
 have r0 := s.hh
 have hn : NoI w (xqJ h d.VR) := by
  rintro k (rfl | hk)
  ·exact a.noI k (.inl (.inl rfl))
  exact a.noI k (.inr (.inr (.inr hk)))
 have nc : ∀ k, xqJ h d.VR k -> k ≠ h -> d.VR.ownBlock = some k := by
  rintro k (e | e) hne
  ·exact absurd e hne
  exact e
 refine ⟨⟨r0, a.bh, a.hT, a.c3, fun i hi => (a.ev i hi).fo hf (fun g hg hk => ?_), a.tk.fo hf (fun g hg hk => ?_), fun x hx => (a.tr x hx).fo hf hn, a.cu.fo hf (fun g hg hk => ?_), s.rd, s.tag⟩, hf.mono (fun k hk => hk.imp (fun h => .inl h) (fun h => .inr (.inr h))), ?_⟩
 ·have hne : g ≠ h := fun e => by subst e; exact (a.ev i hi).apart a.hh a.hT.1 hg
  exact (a.apart.2.2 (nc g hk hne)).1 (.inr ⟨i, hi, hg⟩)
 ·have hne : g ≠ h := fun e => by subst e; exact a.notH.1 hg
  exact (a.apart.2.2 (nc g hk hne)).2.1 hg
 ·have hne : g ≠ h := fun e => by subst e; exact a.notH.2.1 hg
  exact (a.apart.2.2 (nc g hk hne)).2.2 hg
 ·rintro k (hk | hk | hk | hk)
  ·exact .inl (.inl hk)
  ·exact .inl (.inr (.inl hk))
  ·exact .inl (.inr (.inr (.inl hk)))
  exact (st.2 k (.inr hk)).imp (fun h => h.imp (fun h => .inl h) (fun h => .inr (.inr h))) id
theorem Dq.setNext (a : Dq T w B h d l xs cs rs) (v : Value) : Dq T (w.setCell ⟨h, 9, none⟩ v) B h { d with nx := v } l xs cs rs /\ Stp (xqI h d) (xqI h { d with nx := v }) w (w.setCell ⟨h, 9, none⟩ v) := by
 have hf : Fo (fun k => k = h) w (w.setCell ⟨h, 9, none⟩ v) := Fo.setCell (O := fun k => k = h) (Fo.refl _ w) (p := ⟨h, 9, none⟩) (.inl rfl) v
 have hn : NoI w (fun k => k = h) := fun k hk => a.noI k (.inl (.inl hk))
 refine ⟨⟨by rw [xqb a.hh, List.setIfInBounds_toArray]; rfl, a.bh, a.hT, a.c3, fun i hi => (a.ev i hi).fo hf (fun g hg e => by subst e; exact (a.ev i hi).apart a.hh a.hT.1 hg), a.tk.fo hf (fun g hg e => by subst e; exact a.notH.1 hg), fun x hx => (a.tr x hx).fo hf hn, a.cu.fo hf (fun g hg e => by subst e; exact a.notH.2.1 hg), a.rt.fo hf (fun g hg e => by subst e; exact a.notH.2.2 hg), fun k hk => ?_⟩, hf.mono (fun k hk => .inl (.inl hk)), fun k hk => .inl hk⟩
 obtain ⟨h1, c, h2⟩ := a.rg k hk
 exact ⟨h1, c, hf.heap (fun e => by subst e; exact a.notH.2.2 hk) h2⟩
theorem kcs_ecs : ∀ l : List Ev, kcs encEv l = ecs l
 | [] => rfl
 | e :: t => by rw [kcs, ecs, kcs_ecs t]; rfl
theorem ownE_iff {w : World} {base : Nat} {e : TypeId} {v : Value} {l : List Ev} : OwnE w base e v l ↔ OwnK encEv w base e v l := by
 unfold OwnE OwnK
 rw [kcs_ecs]
 exact Iff.rfl
structure Qs where
 l : Nat -> List Ev
 c : Nat
 ps : List Pt
 cs : List Cu
 rs : List It
 nx : Int
def Qs.new : Qs := ⟨fun _ => [], 0, [], [], [], 1⟩
def wriV (q : Qs) (x tb kd key : Int) (t : ByteArray) : Ev := ⟨q.nx, x, ⟨#[]⟩, 0, tb, kd, key, t⟩
def wriQ (q : Qs) (x tb kd key : Int) (t : ByteArray) : Qs := { q with l := upd q.l q.c (q.l q.c ++ [wriV q x tb kd key t]), nx := wrap64 (q.nx + 1) }
def frgN (q : Qs) (x : Int) : Nat := lenN q.l - lenN (forL x q.l)
def frgQ (q : Qs) (x : Int) : Qs := { q with l := forL x q.l }
def tckQ (q : Qs) (M : Int) (lo : List Int) (now : Int) : Qs := { q with ps := addS q.ps M lo now }
def rgsE (q : Qs) (n : ByteArray) : Int := if xqk q.ps = 0 then 9 else regE q.cs n (xqk q.ps)
def rgsQ (q : Qs) (n : ByteArray) : Qs := if xqk q.ps = 0 then q else { q with cs := regL q.cs n (xqk q.ps) }
def urgQ (q : Qs) (n : ByteArray) : Qs := { q with cs := unrL q.cs n, rs := if unrE q.cs n = 0 then drpI q.rs n else q.rs }
def zeroP : Pt := ⟨0, 0, [], 0⟩
def nxtO (q : Qs) (n : ByteArray) : Option Pt := match getC q.cs n with | none => none | some x => if 0 < x.op then none else aftS q.ps x.la
def nxtE (q : Qs) (n : ByteArray) : Int := match getC q.cs n with | none => 4 | some x => if 0 < x.op then 7 else if (aftS q.ps x.la).isSome then 0 else 9
def nxtP (q : Qs) (n : ByteArray) : Pt := (nxtO q n).getD zeroP
def nxtQ (q : Qs) (n : ByteArray) : Qs := match nxtO q n with | some p => { q with cs := opnL q.cs n p.n } | none => q
def tckP (q : Qs) (n : Int) : Pt := (getS q.ps n).getD zeroP
def batE (q : Qs) (n : ByteArray) : Int := match getC q.cs n with | none => 4 | some x => if x.op = 0 then 7 else 0
def allE (q : Qs) : List Ev := srt byId (pre q.l 3)
def batV (st : List Nat) (q : Qs) (n : ByteArray) : List Ev := match getC q.cs n with
 | none => []
 | some x => if x.op = 0 then [] else srt byId ((allE q).filter (told st (tckP q x.la).M (tckP q x.la).l (tckP q x.op).M (tckP q x.op).l n))
def fnsQ (q : Qs) (n : ByteArray) : Qs := { q with cs := finL q.cs n }
def agnO (st : List Nat) (q : Qs) (n : ByteArray) (id : Int) : Option Ev := (batV st q n).find? fun e => e.id == id
def rtyE (st : List Nat) (q : Qs) (n : ByteArray) (id : Int) : Int := if batE q n = 0 then (match agnO st q n id with | some e => adiE q.rs e.id n | none => 4) else batE q n
def rtyQ (st : List Nat) (q : Qs) (n : ByteArray) (id at' : Int) : Qs := if batE q n = 0 then (match agnO st q n id with | some e => { q with rs := adiL q.rs e n at' } | none => q) else q
def setTx (x : Int) (e : Ev) : Ev := { e with tx := x }
def mntV (q : Qs) (x now : Int) : List Ev := (evs (dueI q.rs now)).map (setTx x)
def mntQ (q : Qs) (x now : Int) : Qs := { q with l := upd q.l q.c (q.l q.c ++ mntV q x now), rs := lftI q.rs now }
def snpP (q : Qs) : List Pt := (q.cs.map fun x => tckP q x.la) ++ (match q.ps.getLast? with | some p => [p] | none => [])
def needP (st : List Nat) (ss : List Pt) (e : Ev) : Bool := stAt st e.tx == 1 || (stAt st e.tx == 2 && ss.any fun s => !xqv s.M s.l e.tx)
def freQ (st : List Nat) (q : Qs) : Bool := !(q.l (nxt q.c)).any (needP st (snpP q))
def rotQ (st : List Nat) (q : Qs) : Nat × Int × Qs := let r := rotS q.l q.c (freQ st q); (r.1, r.2.1, { q with l := r.2.2.1, c := r.2.2.2 })
def lowQ (q : Qs) : Int := if q.cs.length = 0 then 9223372036854775807 else leaN q.cs
def trmN (q : Qs) : Int := (q.ps.length : Int) - (xqM q.ps (lowQ q)).length
def trmQ (q : Qs) : Qs := { q with ps := xqM q.ps (lowQ q) }
theorem needB_map (st : List Nat) (ss : List Sv) (e : Ev) : yqq st ss e = needP st (ss.map fun s => ⟨0, s.M, s.l, 0⟩) e := by
 unfold yqq needP
 rw [List.any_map]
 rfl
theorem needP_congr {st : List Nat} {s1 s2 : List Pt} (h : ∀ p : Pt, (∃ x ∈ s1, x.M = p.M /\ x.l = p.l) ↔ (∃ x ∈ s2, x.M = p.M /\ x.l = p.l)) (e : Ev) : needP st s1 e = needP st s2 e := by
 unfold needP
 congr 2
 rw [Bool.eq_iff_iff, List.any_eq_true, List.any_eq_true]
 constructor
 ·rintro ⟨x, hx, hs⟩
  obtain ⟨y, hy, e1, e2⟩ := (h x).1 ⟨x, hx, rfl, rfl⟩
  exact ⟨y, hy, by rw [e1, e2]; exact hs⟩
 rintro ⟨x, hx, hs⟩
 obtain ⟨y, hy, e1, e2⟩ := (h x).2 ⟨x, hx, rfl, rfl⟩
 exact ⟨y, hy, by rw [e1, e2]; exact hs⟩
end Go.Proofs.YticiofkiffgclaaGreat
namespace Go.Proofs.YticiofkiffgclaaGreat
open Go.RowKit Go.Maps
def RiseN (ps : List Pt) : Prop := ps.Pairwise fun a b => a.n < b.n
theorem lastN_mem {ps : List Pt} (h : ps ≠ []) : ∃ p ∈ ps, p.n = xqk ps := by
 rcases List.eq_nil_or_concat ps with rfl | ⟨q, p, rfl⟩
 ·exact absurd rfl h
 rw [List.concat_eq_append]
 exact ⟨p, by simp, by rw [xq4]⟩
theorem yqN {ps : List Pt} {n : Int} : (getS ps n).isSome = true ↔ ∃ p ∈ ps, p.n = n := by
 unfold getS
 rw [List.find?_isSome]
 simp
theorem getS_mem {ps : List Pt} {n : Int} {p : Pt} (h : getS ps n = some p) : p ∈ ps /\ p.n = n := by
 unfold getS at h
 exact ⟨List.mem_of_find?_eq_some h, by simpa using List.find?_some h⟩
theorem RiseN.one {ps : List Pt} (r : RiseN ps) {p q : Pt} (hp : p ∈ ps) (hq : q ∈ ps) (e : p.n = q.n) : p = q := by
 induction ps with
 | nil => simp at hp
 | cons a t ih =>
 obtain ⟨h1, h2⟩ := List.pairwise_cons.1 r
 rcases List.mem_cons.1 hp with rfl | hp2
 ·rcases List.mem_cons.1 hq with rfl | hq
  ·rfl
  have := h1 _ hq; omega
 rcases List.mem_cons.1 hq with e1 | hq2
 ·rw [e1] at e
  have := h1 _ hp2; omega
 exact ih h2 hp2 hq2
theorem RiseN.get {ps : List Pt} (r : RiseN ps) {p : Pt} (hp : p ∈ ps) : getS ps p.n = some p := by
 have h : (getS ps p.n).isSome = true := yqN.2 ⟨p, hp, rfl⟩
 obtain ⟨q, hq⟩ := Option.isSome_iff_exists.1 h
 obtain ⟨h1, h2⟩ := getS_mem hq
 rw [hq, r.one h1 hp h2]
theorem aftS_mem {ps : List Pt} {n : Int} {p : Pt} (h : aftS ps n = some p) : p ∈ ps /\ n < p.n := by
 unfold aftS at h
 exact ⟨List.mem_of_find?_eq_some h, by simpa using List.find?_some h⟩
theorem RiseN.add {ps : List Pt} (r : RiseN ps) (a : Okp ps) (M : Int) (l : List Int) (t : Int) : RiseN (addS ps M l t) := by
 unfold addS
 split
 ·unfold RiseN
  rw [List.pairwise_append]
  refine ⟨r, by simp, ?_⟩
  intro x hx y hy
  obtain rfl := List.mem_singleton.1 hy
  have := a.up x hx
  show x.n < xqk ps + 1
  omega
 exact r
theorem RiseN.trim {ps : List Pt} (r : RiseN ps) (b : Int) : RiseN (xqM ps b) := List.Pairwise.sublist List.filter_sublist r
theorem add_mem {ps : List Pt} {M : Int} {l : List Int} {t : Int} {p : Pt} (h : p ∈ addS ps M l t) : p ∈ ps ∨ p = ⟨xqk ps + 1, M, l, t⟩ := by
 unfold addS at h
 split at h
 ·rcases List.mem_append.1 h with h | h
  ·exact .inl h
  exact .inr (List.mem_singleton.1 h)
 exact .inl h
theorem mem_add {ps : List Pt} {M : Int} {l : List Int} {t : Int} {p : Pt} (h : p ∈ ps) : p ∈ addS ps M l t := by
 unfold addS
 split
 ·exact List.mem_append_left _ h
 exact h
theorem trim_mem {ps : List Pt} (a : Okp ps) {b : Int} {p : Pt} : p ∈ xqM ps b ↔ p ∈ ps /\ (b <= p.n ∨ p.n = xqk ps) := by
 rw [trimS_doc a, List.mem_filter]
 simp
theorem trim_trim {ps : List Pt} (b : Int) : xqM (xqM ps b) b = xqM ps b := by
 unfold xqM
 rw [List.filter_eq_self]
 intro p hp
 have h := (List.mem_filter.1 hp).2
 have e : xqk (ps.filter fun p => !trimP ps b p) = xqk ps := yqD ps b
 unfold trimP at h ⊢
 unfold trimP at e
 rw [e]
 exact h
theorem leaN_le {l : List Cu} {x : Cu} (h : x ∈ l) : leaN l <= x.la := by
 have key : ∀ (t : List Cu) (m : Int), t.foldl (fun m y => if y.la < m then y.la else m) m <= m /\ ∀ y ∈ t, t.foldl (fun m y => if y.la < m then y.la else m) m <= y.la := by
  intro t
  induction t with
  | nil => intro m; simp
  | cons a t ih =>
  intro m
  rw [List.foldl_cons]
  obtain ⟨h1, h2⟩ := ih (if a.la < m then a.la else m)
  have h3 : (if a.la < m then a.la else m) <= m /\ (if a.la < m then a.la else m) <= a.la := by split <;> omega
  refine ⟨by omega, ?_⟩
  intro y hy
  rcases List.mem_cons.1 hy with rfl | hy
  ·omega
  exact h2 y hy
 cases l with
 | nil => simp at h
 | cons a t =>
 obtain ⟨h1, h2⟩ := key t a.la
 rcases List.mem_cons.1 h with rfl | h
 ·exact h1
 exact h2 x h
theorem getC_mem {l : List Cu} {n : ByteArray} {x : Cu} (h : getC l n = some x) : x ∈ l := List.mem_of_find?_eq_some h
structure OkQ (q : Qs) : Prop where
 c3 : q.c < 3
 okp : Okp q.ps
 okc : OkC q.cs
 rise : RiseN q.ps
 pos : ∀ p ∈ q.ps, 1 <= p.n
 la : ∀ x ∈ q.cs, ∃ p ∈ q.ps, p.n = x.la
 op : ∀ x ∈ q.cs, x.op ≠ 0 -> x.la < x.op /\ ∃ p ∈ q.ps, p.n = x.op
theorem OkQ.new : OkQ Qs.new := ⟨by decide, Okp.nil, OkC.nil, List.Pairwise.nil, by simp [Qs.new], by simp [Qs.new], by simp [Qs.new]⟩
theorem OkQ.wri {q : Qs} (h : OkQ q) (x tb kd key : Int) (t : ByteArray) : OkQ (wriQ q x tb kd key t) := ⟨h.c3, h.okp, h.okc, h.rise, h.pos, h.la, h.op⟩
theorem OkQ.frg {q : Qs} (h : OkQ q) (x : Int) : OkQ (frgQ q x) := ⟨h.c3, h.okp, h.okc, h.rise, h.pos, h.la, h.op⟩
theorem OkQ.rty {q : Qs} (h : OkQ q) (st : List Nat) (n : ByteArray) (id at' : Int) : OkQ (rtyQ st q n id at') := by
 unfold rtyQ
 split
 ·split
  ·exact ⟨h.c3, h.okp, h.okc, h.rise, h.pos, h.la, h.op⟩
  exact h
 exact h
theorem OkQ.mnt {q : Qs} (h : OkQ q) (x now : Int) : OkQ (mntQ q x now) := ⟨h.c3, h.okp, h.okc, h.rise, h.pos, h.la, h.op⟩
theorem rotS_lt {l : Nat -> List Ev} {c : Nat} (hc : c < 3) (f : Bool) : (rotS l c f).2.2.2 < 3 := by
 unfold rotS
 split
 ·exact xq1 c
 split
 ·exact hc
 exact hc
theorem OkQ.rot {q : Qs} (h : OkQ q) (st : List Nat) : OkQ (rotQ st q).2.2 := ⟨rotS_lt h.c3 _, h.okp, h.okc, h.rise, h.pos, h.la, h.op⟩
theorem OkQ.tck {q : Qs} (h : OkQ q) {M : Int} {l : List Int} (now : Int) (hM : M <= 9223372036854775807) (hl : l.length <= 1000) : OkQ (tckQ q M l now) := by
 refine ⟨h.c3, h.okp.add now hM hl, h.okc, h.rise.add h.okp M l now, ?_, ?_, ?_⟩
 ·intro p hp
  rcases add_mem hp with hp | rfl
  ·exact h.pos p hp
  have := h.okp.n0
  show 1 <= xqk q.ps + 1
  omega
 ·intro x hx
  obtain ⟨p, hp, e⟩ := h.la x hx
  exact ⟨p, mem_add hp, e⟩
 intro x hx hn
 obtain ⟨h1, p, hp, e⟩ := h.op x hx hn
 exact ⟨h1, p, mem_add hp, e⟩
theorem OkQ.rgs {q : Qs} (h : OkQ q) (n : ByteArray) : OkQ (rgsQ q n) := by
 unfold rgsQ
 split
 ·exact h
 rename_i h0
 have hne : q.ps ≠ [] := fun e => h0 (by rw [e]; rfl)
 have key : ∀ x ∈ regL q.cs n (xqk q.ps), x = ⟨n, xqk q.ps, 0⟩ ∨ x ∈ q.cs := by
  intro x hx
  unfold regL at hx
  split at hx
  ·exact (insC_mem _ _ _).1 hx
  exact .inr hx
 refine ⟨h.c3, h.okp, h.okc.reg n _, h.rise, h.pos, ?_, ?_⟩
 ·intro x hx
  rcases key x hx with rfl | hx
  ·exact lastN_mem hne
  exact h.la x hx
 intro x hx hn
 rcases key x hx with rfl | hx
 ·exact absurd rfl hn
 exact h.op x hx hn
theorem OkQ.urg {q : Qs} (h : OkQ q) (n : ByteArray) : OkQ (urgQ q n) := by
 have key : ∀ x ∈ unrL q.cs n, x ∈ q.cs := by
  intro x hx
  unfold unrL at hx
  split at hx
  ·exact List.mem_of_mem_eraseIdx hx
  exact hx
 exact ⟨h.c3, h.okp, h.okc.unr n, h.rise, h.pos, fun x hx => h.la x (key x hx), fun x hx hn => h.op x (key x hx) hn⟩
theorem OkQ.nxt {q : Qs} (h : OkQ q) (n : ByteArray) : OkQ (nxtQ q n) := by
 unfold nxtQ
 cases ho : nxtO q n with
 | none => exact h
 | some p =>
 have hp : p ∈ q.ps := by
  unfold nxtO at ho
  split at ho
  ·exact absurd ho (by simp)
  split at ho
  ·exact absurd ho (by simp)
  exact (aftS_mem ho).1
 have key : ∀ x ∈ opnL q.cs n p.n, x ∈ q.cs ∨ ∃ y ∈ q.cs, x = ⟨n, y.la, p.n⟩ /\ y.la < p.n := by
  intro x hx
  unfold opnL at hx
  split at hx
  ·rename_i i y hi hy
   split at hx
   ·exact .inl hx
   rename_i hg
   rcases List.mem_or_eq_of_mem_set hx with hx | rfl
   ·exact .inl hx
   exact .inr ⟨y, getC_mem hy, rfl, by omega⟩
  exact .inl hx
 refine ⟨h.c3, h.okp, h.okc.opn n _, h.rise, h.pos, ?_, ?_⟩
 ·intro x hx
  rcases key x hx with hx | ⟨y, hy, rfl, _⟩
  ·exact h.la x hx
  exact h.la y hy
 intro x hx hn
 rcases key x hx with hx | ⟨y, hy, rfl, hlt⟩
 ·exact h.op x hx hn
 exact ⟨hlt, p, hp, rfl⟩
theorem OkQ.fns {q : Qs} (h : OkQ q) (n : ByteArray) : OkQ (fnsQ q n) := by
 have key : ∀ x ∈ finL q.cs n, x ∈ q.cs ∨ ∃ y ∈ q.cs, x = ⟨n, y.op, 0⟩ /\ y.op ≠ 0 := by
  intro x hx
  unfold finL at hx
  split at hx
  ·rename_i i y hi hy
   split at hx
   ·exact .inl hx
   rename_i hg
   rcases List.mem_or_eq_of_mem_set hx with hx | rfl
   ·exact .inl hx
   exact .inr ⟨y, getC_mem hy, rfl, hg⟩
  exact .inl hx
 refine ⟨h.c3, h.okp, h.okc.fin n, h.rise, h.pos, ?_, ?_⟩
 ·intro x hx
  rcases key x hx with hx | ⟨y, hy, rfl, hn⟩
  ·exact h.la x hx
  exact (h.op y hy hn).2
 intro x hx hn
 rcases key x hx with hx | ⟨y, hy, rfl, _⟩
 ·exact h.op x hx hn
 exact absurd rfl hn
theorem lowQ_le {q : Qs} {x : Cu} (hx : x ∈ q.cs) : lowQ q <= x.la := by
 unfold lowQ
 rw [if_neg (by intro h; rw [List.eq_nil_of_length_eq_zero h] at hx; simp at hx)]
 exact leaN_le hx
theorem OkQ.trm {q : Qs} (h : OkQ q) : OkQ (trmQ q) := by
 refine ⟨h.c3, h.okp.trim _, h.okc, h.rise.trim _, fun p hp => h.pos p ((trim_mem h.okp).1 hp).1, ?_, ?_⟩
 ·intro x hx
  obtain ⟨p, hp, e⟩ := h.la x hx
  exact ⟨p, (trim_mem h.okp).2 ⟨hp, .inl (by have := lowQ_le (q := q) hx; omega)⟩, e⟩
 intro x hx hn
 obtain ⟨h1, p, hp, e⟩ := h.op x hx hn
 exact ⟨h1, p, (trim_mem h.okp).2 ⟨hp, .inl (by have := lowQ_le (q := q) hx; omega)⟩, e⟩
theorem trm_again (q : Qs) : trmN (trmQ q) = 0 := by
 have e : lowQ (trmQ q) = lowQ q := rfl
 unfold trmN
 rw [e]
 show ((xqM q.ps (lowQ q)).length : Int) - (xqM (xqM q.ps (lowQ q)) (lowQ q)).length = 0
 rw [trim_trim]
 omega
theorem OkQ.hasLa {q : Qs} (h : OkQ q) {x : Cu} (hx : x ∈ q.cs) : (getS q.ps x.la).isSome = true := yqN.2 (h.la x hx)
theorem OkQ.hasOp {q : Qs} (h : OkQ q) {x : Cu} (hx : x ∈ q.cs) (hn : x.op ≠ 0) : (getS q.ps x.op).isSome = true := yqN.2 (h.op x hx hn).2
theorem OkQ.hasLast {q : Qs} (h : OkQ q) : (getS q.ps (xqk q.ps)).isSome = decide (0 < xqk q.ps) := by
 by_cases hn : q.ps = []
 ·rw [hn]; rfl
 obtain ⟨p, hp, e⟩ := lastN_mem hn
 have := h.pos p hp
 rw [yqN.2 ⟨p, hp, e⟩]
 symm
 rw [decide_eq_true_eq]
 omega
def wantB (st : List Nat) (q : Qs) (e : Ev) : Bool := stAt st e.tx == 1 || (stAt st e.tx == 2 && q.cs.any fun x => !xqv (tckP q x.la).M (tckP q x.la).l e.tx)
theorem want_need {st : List Nat} {q : Qs} {e : Ev} (h : wantB st q e = true) : needP st (snpP q) e = true := by
 unfold wantB at h
 unfold needP
 rw [Bool.or_eq_true, Bool.and_eq_true] at h ⊢
 rcases h with h | ⟨h1, h2⟩
 ·exact .inl h
 refine .inr ⟨h1, ?_⟩
 rw [List.any_eq_true] at h2 ⊢
 obtain ⟨x, hx, hs⟩ := h2
 exact ⟨tckP q x.la, List.mem_append_left _ (List.mem_map.2 ⟨x, hx, rfl⟩), hs⟩
theorem xq9 {l : Nat -> List Ev} {e : Ev} : e ∈ pre l 3 ↔ ∃ i, i < 3 /\ e ∈ l i := by
 simp only [pre, List.nil_append, List.mem_append]
 constructor
 ·rintro ((h | h) | h)
  ·exact ⟨0, by omega, h⟩
  ·exact ⟨1, by omega, h⟩
  exact ⟨2, by omega, h⟩
 rintro ⟨i, hi, h⟩
 have : i = 0 ∨ i = 1 ∨ i = 2 := by omega
 rcases this with rfl | rfl | rfl
 ·exact .inl (.inl h)
 ·exact .inl (.inr h)
 exact .inr h
theorem rot_keeps {st : List Nat} {q : Qs} {e : Ev} (hw : wantB st q e = true) (he : e ∈ pre q.l 3) : e ∈ pre (rotQ st q).2.2.l 3 := by
 have hn := want_need hw
 obtain ⟨i, hi, hm⟩ := xq9.1 he
 show e ∈ pre (rotS q.l q.c (freQ st q)).2.2.1 3
 unfold rotS
 split
 ·exact he
 split
 ·rename_i hf
  refine xq9.2 ⟨i, hi, ?_⟩
  show e ∈ upd q.l (Go.Proofs.YticiofkiffgclaaGreat.nxt q.c) [] i
  rw [yqb]
  ·exact hm
  rintro rfl
  unfold freQ at hf
  rw [Bool.not_eq_true', List.any_eq_false] at hf
  exact hf e hm hn
 exact he
theorem rot_mem {st : List Nat} {q : Qs} {e : Ev} (he : e ∈ pre (rotQ st q).2.2.l 3) : e ∈ pre q.l 3 := by
 have he : e ∈ pre (rotS q.l q.c (freQ st q)).2.2.1 3 := he
 unfold rotS at he
 split at he
 ·exact he
 split at he
 ·obtain ⟨i, hi, hm⟩ := xq9.1 he
  have hm : e ∈ upd q.l (Go.Proofs.YticiofkiffgclaaGreat.nxt q.c) [] i := hm
  by_cases h : i = Go.Proofs.YticiofkiffgclaaGreat.nxt q.c
  ·rw [h, xqL] at hm; simp at hm
  rw [yqb _ _ h] at hm
  exact xq9.2 ⟨i, hi, hm⟩
 exact he
def rotK (st : List Nat) : Nat -> Qs -> Qs
 | 0, q => q
 | k + 1, q => (rotQ st (rotK st k q)).2.2
theorem rotK_keeps {st : List Nat} {q : Qs} {e : Ev} (hw : wantB st q e = true) (he : e ∈ pre q.l 3) : ∀ k, e ∈ pre (rotK st k q).l 3 /\ wantB st (rotK st k q) e = true
 | 0 => ⟨he, hw⟩
 | k + 1 => ⟨rot_keeps (rotK_keeps hw he k).2 (rotK_keeps hw he k).1, (rotK_keeps hw he k).2⟩
theorem srtQ_mem {l : List Ev} {e : Ev} : e ∈ srt byId l ↔ e ∈ l := by rw [(yqJ xq8 l).mem xq8]
/-! ## While they begin, write, end, and ticks come. -/
end Go.Proofs.YticiofkiffgclaaGreat
