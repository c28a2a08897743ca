/-
 Srb, Sqc in one text.
-/
import Derived.Test.YticiofkiffgclaaGreatQu0
import Derived.Test.YticiofkiffgclaaGreatQu19
set_option linter.unusedVariables false
set_option maxHeartbeats 16000000
set_option maxRecDepth 100000
namespace Go.Proofs.YticiofkiffgclaaGreat
open Go.RowKit
variable {w w' : World} {B h c : Nat} {V : Nat -> Value} {l : Nat -> List Ev}
theorem src_ev (w : World) (e : Ev) : Src Tryz.prog 8 57 (.slice (some ⟨w.heap.size, 0, none⟩) 1 1) 1 e.cs.toList (w.alloc (.cells e.cs 50)) := by
 refine Src.ofSlice _ Tryz.underlying57 ⟨w.heap.size, 0, none⟩ 1 1 _ rfl (fun j x hx => ?_) (encE_one e)
 rw [Addr.add_lit, cell_of_row _ _ _ _ _ _ (heap_alloc_new w (.cells e.cs 50)), Nat.zero_add]
 simpa using hx
theorem OwnE.takeR {base g n c q : Nat} {e : TypeId} {m : List Ev} (x : OwnE w base e (.slice (some ⟨g, 0, none⟩) n c) m) (hq : q <= m.length) : RdE w (.slice (some ⟨g, 0, none⟩) q c) (m.take q) := by
 have hl : (m.take q).length = q := by rw [List.length_take]; omega
 rcases x.2 with ⟨h0, _⟩ | ⟨g', cap, cur, h0, hb, hg, hnc, hcm, hcs, ht⟩
 ·cases h0
 simp only [Value.slice.injEq, Option.some.injEq, Addr.mk.injEq] at h0
 obtain ⟨⟨rfl, _⟩, rfl, rfl⟩ := h0
 refine ⟨some ⟨g, 0, none⟩, c, by rw [hl], by omega, by simp, fun _ => ⟨g, 0, rfl, fun k hk => ?_⟩⟩
 rw [hl] at hk
 obtain ⟨u, hu⟩ := ecs_some m k (by omega)
 have := World.ownsRow.cells x (g := g) rfl k u hu
 rw [Addr.add_lit] at this
 rw [this, <- hu]
 conv => lhs; rw [<- List.take_append_drop q m, xqB]
 rw [List.getElem?_append_left (by rw [xqE, hl]; exact hk)]
theorem OwnE.dropR {base g n c q : Nat} {e : TypeId} {m : List Ev} (x : OwnE w base e (.slice (some ⟨g, 0, none⟩) n c) m) (hq : q <= m.length) : RdE w (.slice (some ⟨g, q * 8, none⟩) (m.length - q) (c - q)) (m.drop q) := by
 have hl : (m.drop q).length = m.length - q := by rw [List.length_drop]
 rcases x.2 with ⟨h0, _⟩ | ⟨g', cap, cur, h0, hb, hg, hnc, hcm, hcs, ht⟩
 ·cases h0
 simp only [Value.slice.injEq, Option.some.injEq, Addr.mk.injEq] at h0
 obtain ⟨⟨rfl, _⟩, rfl, rfl⟩ := h0
 refine ⟨some ⟨g, q * 8, none⟩, c - q, by rw [hl], by omega, by simp, fun _ => ⟨g, q * 8, rfl, fun k hk => ?_⟩⟩
 rw [hl] at hk
 obtain ⟨u, hu⟩ := ecs_some m (q * 8 + k) (by omega)
 have := World.ownsRow.cells x (g := g) rfl (q * 8 + k) u hu
 rw [Addr.add_lit, Nat.zero_add] at this
 rw [this, <- hu]
 have ht' : (m.take q).length = q := by rw [List.length_take]; omega
 conv => lhs; rw [<- List.take_append_drop q m, xqB]
 rw [List.getElem?_append_right (by rw [xqE, ht']; omega), xqE, ht']
 congr 1
 omega
theorem rdE_no (a : Option Addr) (c : Nat) (ha : a = none -> c = 0) : RdE w (.slice a 0 c) [] := ⟨a, c, rfl, Nat.zero_le _, ha, fun h => absurd rfl h⟩
theorem put_at {o m : List Ev} {x : Ev} {i q : Nat} (hs : Srt byId o) (hst : Stab byId (m.take i) o) (hx : m[i]? = some x) (hq : q <= o.length) (h1 : ∀ j y, q <= j -> o[j]? = some y -> x.id < y.id) (h2 : ∀ y, 0 < q -> o[q - 1]? = some y -> y.id <= x.id) :
 Srt byId (o.take q ++ x :: o.drop q) /\ Stab byId (m.take (i + 1)) (o.take q ++ x :: o.drop q) := by
 have hp : ∀ y ∈ o.take q, byId y x = true := by
  intro y hy
  obtain ⟨j, hj, e⟩ := List.mem_iff_getElem.1 hy
  rw [List.length_take] at hj
  rw [List.getElem_take] at e
  have h3 := h2 (o[q - 1]'(by omega)) (by omega) (List.getElem?_eq_getElem _)
  by_cases e1 : j = q - 1
  ·subst e1; rw [e] at h3; simpa [byId] using h3
  have := List.pairwise_iff_getElem.1 hs j (q - 1) (by omega) (by omega) (by omega)
  rw [e] at this
  simp only [byId, decide_eq_true_eq] at this ⊢
  omega
 have hr : ∀ y ∈ o.drop q, byId y x = false := by
  intro y hy
  obtain ⟨j, hj, e⟩ := List.mem_iff_getElem.1 hy
  rw [List.length_drop] at hj
  rw [List.getElem_drop] at e
  have := h1 (q + j) y (by omega) (by rw [List.getElem?_eq_getElem (by omega), e])
  simp only [byId, decide_eq_false_iff_not]
  omega
 obtain ⟨s1, s2⟩ := insert_at xq8 (p := o.take q) (q := o.drop q) (x := x) (by rw [List.take_append_drop]; exact hs) hp hr
 rw [List.take_append_drop] at s2
 refine ⟨s1, Stab.trans ?_ s2⟩
 have e : m.take (i + 1) = m.take i ++ [x] := by rw [List.take_add_one, hx]; rfl
 rw [e]
 exact hst.append (Stab.refl byId [x])
theorem rsort_any {v : Value} {m : List Ev} (hm : RdE w v m) (hl : m.length < 1000000) :
 Calls Tryz.prog 131 #[v] w fun e w' => ∃ v', e = .returned v' /\ OwnE w' w.heap.size 50 v' (srt byId m) /\ Kept w w' [] := by
 obtain ⟨a, ca, rfl⟩ := hm.shape3
 have HM := iH hm
 obtain ⟨n, hn⟩ : ∃ n, n = m.length := ⟨_, rfl⟩
 have HN := iH hn
 rw [<- hn] at hl ⊢
 obtain ⟨i0, hi0, hz0, hz1, hzb⟩ := info_parts Tryz.infoEv_g6
 have I := iH (And.intro hi0 (And.intro hz0 (And.intro hz1 hzb)))
 clear hm hn hi0 hz0 hz1 hzb
 go_enter Tryz.func131, Tryz.ntmps131
 go_wp2
 go_loopg [3, 4, 5, 6] n (fun kx s3 s4 _ _ wr => ∃ (i : Nat) (u : Option Addr) (cp : Nat) (o : List Ev), s3 = .slice u i cp /\ s4 = .int .i64 i /\ i <= n /\ n - i <= kx /\ RowKit.Hid (OwnE wr w.heap.size 50 (.slice u i cp) o /\ o.length = i /\ Srt byId o /\ Stab byId (m.take i) o /\ Kept w wr []))
 case atStart => exact ⟨0, none, 0, [], rfl, rfl, by omega, by omega, OwnE.nil _ _ _, rfl, List.Pairwise.nil, Stab.refl _ _, Kept.refl _ _⟩
 case round =>
  obtain ⟨i, u, cp, o, rfl, rfl, hi, hkx, HS⟩ := hrel
  obtain ⟨wo, hwo⟩ : ∃ wo, wo = wr := ⟨_, rfl⟩
  subst hwo
  by_cases hlt : i < n
  ·have x1 : (i : Int) < (n : Int) := by omega
   obtain ⟨x, hx⟩ : ∃ r, m[i]? = some r := ⟨_, List.getElem?_eq_getElem (by rw [<- HN.out]; exact hlt)⟩
   have HX := iH hx
   obtain ⟨bm, om, ham, _⟩ := HM.out.eight hx
   subst ham
   have RX := iH (fun W (hk : Kept w W []) => (HM.out.kept hk (by simp)).eight hx)
   clear hx
   have hwr : w.heap.size <= wo.heap.size := HS.out.2.2.2.2.size
   rcases HS.out.1.2 with ⟨hu, h00⟩ | ⟨g, cap, cur, hu, hbg, hgg, hnc, hcm, hcs, htk⟩
   ·simp only [Value.slice.injEq] at hu
    obtain ⟨rfl, h00', rfl⟩ := hu
    obtain rfl : i = 0 := h00'
    go_wp2
    go_loopg [5] 0 (fun kx s5 wz => s5 = .int .i64 0 /\ RowKit.Hid (Kept wo wz [] /\ True))
    case atStart => exact ⟨rfl, Kept.refl _ _, trivial⟩
    case round =>
    obtain ⟨rfl, HZ⟩ := hrel
    go_wp2_with fail
    go_quiet (fail)
    have HZ := iH (And.intro (HZ.out.1.drewN nq) trivial)
    generalize wr.drewN nq = wz at HZ ⊢
    have hwz : w.heap.size <= wz.heap.size := by have := HZ.out.1.size; omega
    go_wp2_with (at_builtin; refine xqe _ rfl (.tmp 33) (.tmp 36) 57 57 rfl w.heap.size 50 i0 _ 8 80 Tryz.underlying57 I.out.1 I.out.2.1 I.out.2.2.1 I.out.2.2.2 rfl (.slice none 0 0) 0 [] rfl (OwnE.nil _ _ _) _ 0 (ecs (([] : List Ev))) rfl ?src (by unfold maxLen; omega) (by omega) (by first | assumption | omega | (simp; omega)) ?next)
    case src => have := (rdE_no none 0 (fun _ => rfl) : RdE wz _ (([] : List Ev))).src (P := Tryz.prog) Tryz.underlying57; exact this
    case next =>
    intro v2 w2 hown hgrow; intros
    have ho : OwnE w2 w.heap.size 50 v2 (([] : List Ev)) := by unfold OwnE; simpa using hown
    have hk : Kept w w2 [] := (HS.out.2.2.2.2.trans HZ.out.1 (by simp)).grown hgrow (fun k hk => by simp [Value.ownBlock] at hk)
    have hkr : Kept wo w2 [] := HZ.out.1.grown hgrow (fun k hk => by simp [Value.ownBlock] at hk)
    obtain ⟨b9, o9, e9, c0, c1, c2, c3, c4, c5, c6, c7⟩ := RX.out w2 hk
    simp only [Option.some.injEq, Addr.mk.injEq] at e9
    obtain ⟨rfl, rfl, _⟩ := e9
    simp only [Nat.zero_mul, Nat.add_zero] at c0 c1 c2 c3 c4 c5 c6 c7
    have Ho := iH ho; have Hk := iH hk; have Hkr := iH hkr
    have hw2 : w.heap.size <= w2.heap.size := hk.size
    clear ho hk hkr hown hgrow
    go_wp2_with (at_builtin; refine xqe _ rfl (.tmp 38) (.tmp 43) 57 57 rfl w.heap.size 50 i0 _ 8 80 Tryz.underlying57 I.out.1 I.out.2.1 I.out.2.2.1 I.out.2.2.2 rfl _ 0 (ecs (([] : List Ev))) rfl ?hown _ 1 x.cs.toList rfl (src_ev w2 x) (by unfold maxLen; omega) (by omega) (by first | assumption | omega | (simp; omega)) ?next)
    case hown => have := World.ownsRow.alloc Ho.out (.cells x.cs 50); exact this
    case next =>
    intro v3 w3 hown hgrow; intros
    have ho : OwnE w3 w.heap.size 50 v3 (([] : List Ev) ++ [x]) := by unfold OwnE; rw [<- yqw, List.length_append]; exact hown
    have hg : ∀ k, v2.ownBlock = some k -> w.heap.size <= k := fun k hk => (Ho.out.lt k hk).1
    have hk : Kept w w3 [] := (Hk.out.alloc (.cells x.cs 50)).grown hgrow (fun k hk => .inr (hg k hk))
    have Ho3 := iH ho; have Hk3 := iH hk
    have hw3 : w.heap.size <= w3.heap.size := hk.size
    clear ho hk hown hgrow hg c0 c1 c2 c3 c4 c5 c6 c7
    go_wp2_with (at_builtin; refine xqe _ rfl (.tmp 45) (.tmp 48) 57 57 rfl w.heap.size 50 i0 _ 8 80 Tryz.underlying57 I.out.1 I.out.2.1 I.out.2.2.1 I.out.2.2.2 rfl _ (0 + 1) (ecs (([] : List Ev) ++ [x])) rfl ?hown (.slice none 0 0) 0 (ecs (([] : List Ev))) rfl ?src (by unfold maxLen; omega) (by omega) (by first | assumption | omega | (simp; omega)) ?next)
    case hown => have := Ho3.out; unfold OwnE at this; rw [List.length_append] at this; exact this
    case src => have := (rdE_no none 0 (fun _ => rfl) : RdE w3 _ (([] : List Ev))).src (P := Tryz.prog) Tryz.underlying57; exact this
    case next =>
    intro v4 w4 hown hgrow; intros
    have ho : OwnE w4 w.heap.size 50 v4 (([] : List Ev) ++ x :: ([] : List Ev)) := by
     have e1 : ([] : List Ev) ++ x :: ([] : List Ev) = (([] : List Ev) ++ [x]) ++ ([] : List Ev) := by simp
     rw [e1]; unfold OwnE; rw [xqB, List.length_append, List.length_append]; exact hown
    have hk : Kept w w4 [] := Hk3.out.grown hgrow (fun k hk => .inr (Ho3.out.lt k hk).1)
    obtain ⟨u9, n9, rfl⟩ := ho.shape
    have hlen : (([] : List Ev) ++ x :: ([] : List Ev)).length = 0 + 1 := by rfl
    rw [hlen] at ho ⊢
    have pa := put_at (o := []) (q := 0) List.Pairwise.nil (by rw [List.take_zero]; exact Stab.refl _ _) HX.out (Nat.zero_le _) (fun j y _ hy => by simp at hy) (fun y h => absurd h (Nat.lt_irrefl 0))
    have R := iH (And.intro ho (And.intro hlen (And.intro pa.1 (And.intro pa.2 hk))))
    clear ho hk hown hgrow hlen pa
    go_wp2
    go_roundg (n - (0 + 1))
    case measure => omega
    case rel => exact ⟨0 + 1, _, _, _, rfl, by go_num, by omega, by omega, R⟩
   simp only [Value.slice.injEq] at hu
   obtain ⟨rfl, hio, rfl⟩ := hu
   have xc : (i : Int) <= (cp : Int) := by omega
   have HG := iH (And.intro hnc hio)
   clear hbg hgg hnc hcm hcs htk hio
   go_wp2
   go_loopg [5] i (fun kx s5 wz => ∃ q : Nat, s5 = .int .i64 q /\ q <= i /\ q <= kx /\ RowKit.Hid (Kept wo wz [] /\ ∀ j y, q <= j -> o[j]? = some y -> x.id < y.id))
   case atStart => exact ⟨i, rfl, by omega, by omega, Kept.refl _ _, fun j y hj hy => by
    have := (List.getElem?_eq_some_iff.1 hy).1
    have := HS.out.2.1
    omega⟩
   case round =>
   obtain ⟨q, rfl, hq, hkq, HZ⟩ := hrel
   obtain ⟨b9, o9, e9, y0, _⟩ := RX.out wr (HS.out.2.2.2.2.trans HZ.out.1 (by simp))
   simp only [Option.some.injEq, Addr.mk.injEq] at e9
   obtain ⟨rfl, rfl, _⟩ := e9
   have xq : (q : Int) <= (cp : Int) := by omega
   by_cases h0 : q = 0
   ·have HQ := iH (show ∀ y, 0 < q -> o[q - 1]? = some y -> y.id <= x.id from fun y h => by omega)
    have z0 : decide ((0 : Int) < (q : Int)) = false := decide_eq_false (by omega)
    have z0' : decide (0 < q) = false := decide_eq_false (by omega)
    have H0 := iH h0
    clear h0
    go_wp2_with fail
    go_quiet (fail)
    have HZ2 := iH (And.intro (HZ.out.1.drewN nq) HZ.out.2)
    clear y0
    generalize wr.drewN nq = wz at HZ2 ⊢
    have hwz : w.heap.size <= wz.heap.size := by have := HZ2.out.1.size; omega
    go_wp2_with (at_builtin; refine xqe _ rfl (.tmp 33) (.tmp 36) 57 57 rfl w.heap.size 50 i0 _ 8 80 Tryz.underlying57 I.out.1 I.out.2.1 I.out.2.2.1 I.out.2.2.2 rfl (.slice none 0 0) 0 [] rfl (OwnE.nil _ _ _) _ q (ecs (o.take q)) rfl ?src (by unfold maxLen; omega) (by omega) (by first | assumption | omega | (simp; omega)) ?next)
    case src => have := ((HS.out.1.kept HZ2.out.1 (by simp)).takeR (by have := HS.out.2.1; omega) : RdE wz _ (o.take q)).src (P := Tryz.prog) Tryz.underlying57; rw [List.length_take, Nat.min_eq_left (by have := HS.out.2.1; omega)] at this; exact this
    case next =>
    intro v2 w2 hown hgrow hl2; intros
    have NB : v2.ownBlock ≠ some g := by
     intro hz
     have hgl := (HS.out.1.lt g rfl).2
     have hzs := HZ2.out.1.size
     rcases hl2 with h | ⟨g9, h, hg9⟩
     ·rw [h] at hz; simp [Value.ownBlock] at hz
     rw [h] at hz; simp only [Option.some.injEq] at hz; subst hz; omega
    have ho : OwnE w2 w.heap.size 50 v2 (o.take q) := by unfold OwnE; rw [List.length_take, Nat.min_eq_left (by have := HS.out.2.1; omega)]; simpa using hown
    have hk : Kept w w2 [] := (HS.out.2.2.2.2.trans HZ2.out.1 (by simp)).grown hgrow (fun k hk => by simp [Value.ownBlock] at hk)
    have hkr : Kept wo w2 [] := HZ2.out.1.grown hgrow (fun k hk => by simp [Value.ownBlock] at hk)
    obtain ⟨b9, o9, e9, c0, c1, c2, c3, c4, c5, c6, c7⟩ := RX.out w2 hk
    simp only [Option.some.injEq, Addr.mk.injEq] at e9
    obtain ⟨rfl, rfl, _⟩ := e9
    have Ho := iH ho; have Hk := iH hk; have Hkr := iH hkr; have HNB := iH NB
    have hw2 : w.heap.size <= w2.heap.size := hk.size
    clear ho hk hkr hown hgrow hl2 NB
    go_wp2_with (at_builtin; refine xqe _ rfl (.tmp 38) (.tmp 43) 57 57 rfl w.heap.size 50 i0 _ 8 80 Tryz.underlying57 I.out.1 I.out.2.1 I.out.2.2.1 I.out.2.2.2 rfl _ q (ecs (o.take q)) rfl ?hown _ 1 x.cs.toList rfl (src_ev w2 x) (by unfold maxLen; omega) (by omega) (by first | assumption | omega | (simp; omega)) ?next)
    case hown => have := World.ownsRow.alloc Ho.out (.cells x.cs 50); rw [List.length_take, Nat.min_eq_left (by have := HS.out.2.1; omega)] at this; exact this
    case next =>
    intro v3 w3 hown hgrow; intros
    have ho : OwnE w3 w.heap.size 50 v3 (o.take q ++ [x]) := by unfold OwnE; rw [<- yqw, List.length_append, List.length_take, Nat.min_eq_left (by have := HS.out.2.1; omega)]; exact hown
    have hg : ∀ k, v2.ownBlock = some k -> w.heap.size <= k := fun k hk => (Ho.out.lt k hk).1
    have hk : Kept w w3 [] := (Hk.out.alloc (.cells x.cs 50)).grown hgrow (fun k hk => .inr (hg k hk))
    have hor : OwnE w3 w.heap.size 50 (.slice (some ⟨g, 0, none⟩) i cp) o := ((HS.out.1.kept (Hkr.out.alloc (.cells x.cs 50)) (by simp))).fo ((Fo.refl (fun k => v2.ownBlock = some k) _).grown hgrow (fun k hk => .inl hk)) (fun k hk => by simp only [Value.ownBlock, Option.some.injEq] at hk; subst hk; exact HNB.out)
    have Hor := iH hor
    have Ho3 := iH ho; have Hk3 := iH hk
    have hw3 : w.heap.size <= w3.heap.size := hk.size
    clear ho hk hown hgrow hg hor c0 c1 c2 c3 c4 c5 c6 c7
    by_cases hcq : cp = q
    ·have HD0 : o.drop q = [] := List.drop_of_length_le (by have := HG.out.1; have := HG.out.2; omega)
     have hic : i = q := by have := HG.out.1; have := HG.out.2; omega
     have HD0 := iH HD0
     have hiq := iH hic
     subst hcq
     subst hic
     go_wp2_with (at_builtin; refine xqe _ rfl (.tmp 45) (.tmp 48) 57 57 rfl w.heap.size 50 i0 _ 8 80 Tryz.underlying57 I.out.1 I.out.2.1 I.out.2.2.1 I.out.2.2.2 rfl _ (i + 1) (ecs (o.take i ++ [x])) rfl ?hown _ 0 (ecs (([] : List Ev))) rfl ?src (by unfold maxLen; omega) (by omega) (by first | assumption | omega | (simp; omega)) ?next)
     case hown => have := Ho3.out; unfold OwnE at this; rw [List.length_append, List.length_take, Nat.min_eq_left (by have := HS.out.2.1; omega)] at this; exact this
     case src => have := (rdE_no (some ⟨g, 0, none⟩) 0 (by simp) : RdE w3 _ (([] : List Ev))).src (P := Tryz.prog) Tryz.underlying57; simpa using this
     case next =>
     intro v4 w4 hown hgrow; intros
     have ho : OwnE w4 w.heap.size 50 v4 (o.take i ++ x :: o.drop i) := by
      have e1 : o.take i ++ x :: o.drop i = (o.take i ++ [x]) ++ ([] : List Ev) := by rw [HD0.out]; simp
      rw [e1]; unfold OwnE; rw [xqB, List.length_append, List.length_append, List.length_take, Nat.min_eq_left (by have := HS.out.2.1; omega)]; exact hown
     have hk : Kept w w4 [] := Hk3.out.grown hgrow (fun k hk => .inr (Ho3.out.lt k hk).1)
     obtain ⟨u9, n9, rfl⟩ := ho.shape
     have hlen : (o.take i ++ x :: o.drop i).length = i + 1 := by rw [List.length_append, List.length_cons, List.length_take, List.length_drop, HS.out.2.1]; omega
     rw [hlen] at ho ⊢
     have pa := put_at HS.out.2.2.1 HS.out.2.2.2.1 HX.out (by have := HS.out.2.1; omega) HZ2.out.2 HQ.out
     have R := iH (And.intro ho (And.intro hlen (And.intro pa.1 (And.intro pa.2 hk))))
     clear ho hk hown hgrow hlen pa
     go_wp2
     go_roundg (n - (i + 1))
     case measure => omega
     case rel => exact ⟨i + 1, _, _, _, rfl, by go_num, by omega, by omega, R⟩
    have x5 : (q : Int) < (cp : Int) := by have := HG.out.1; have := HG.out.2; omega
    have x6 : (q : Int) <= (i : Int) := by omega
    go_wp2_with (at_builtin; refine xqe _ rfl (.tmp 45) (.tmp 48) 57 57 rfl w.heap.size 50 i0 _ 8 80 Tryz.underlying57 I.out.1 I.out.2.1 I.out.2.2.1 I.out.2.2.2 rfl _ (q + 1) (ecs (o.take q ++ [x])) rfl ?hown _ (i - q) (ecs (o.drop q)) rfl ?src (by unfold maxLen; omega) (by omega) (by first | assumption | omega | (simp; omega)) ?next)
    case hown => have := Ho3.out; unfold OwnE at this; rw [List.length_append, List.length_take, Nat.min_eq_left (by have := HS.out.2.1; omega)] at this; exact this
    case src => have := (Hor.out.dropR (by have := HS.out.2.1; omega) : RdE w3 _ (o.drop q)).src (P := Tryz.prog) Tryz.underlying57; rw [List.length_drop, HS.out.2.1] at this; exact this
    case next =>
    intro v4 w4 hown hgrow; intros
    have ho : OwnE w4 w.heap.size 50 v4 (o.take q ++ x :: o.drop q) := by
     have e1 : o.take q ++ x :: o.drop q = (o.take q ++ [x]) ++ o.drop q := by simp
     rw [e1]; unfold OwnE; rw [xqB, List.length_append, List.length_append, List.length_take, Nat.min_eq_left (by have := HS.out.2.1; omega), List.length_drop, HS.out.2.1]; exact hown
    have hk : Kept w w4 [] := Hk3.out.grown hgrow (fun k hk => .inr (Ho3.out.lt k hk).1)
    obtain ⟨u9, n9, rfl⟩ := ho.shape
    have hlen : (o.take q ++ x :: o.drop q).length = i + 1 := by rw [List.length_append, List.length_cons, List.length_take, List.length_drop, HS.out.2.1]; omega
    rw [hlen] at ho ⊢
    have pa := put_at HS.out.2.2.1 HS.out.2.2.2.1 HX.out (by have := HS.out.2.1; omega) HZ2.out.2 HQ.out
    have R := iH (And.intro ho (And.intro hlen (And.intro pa.1 (And.intro pa.2 hk))))
    clear ho hk hown hgrow hlen pa
    go_wp2
    go_roundg (n - (i + 1))
    case measure => omega
    case rel => exact ⟨i + 1, _, _, _, rfl, by go_num, by omega, by omega, R⟩
   obtain ⟨p, hp⟩ : ∃ p, p = q - 1 := ⟨_, rfl⟩
   have hp1 : p + 1 <= q := by omega
   have hp2 : q <= p + 1 := by omega
   obtain ⟨y, hy⟩ : ∃ y, o[p]? = some y := ⟨_, List.getElem?_eq_getElem (by have := HS.out.2.1; omega)⟩
   have HY := iH hy
   have HP := iH hp
   have xp : (q : Int) - 1 = (p : Int) := by omega
   have xpw : IntKind.i64.wrap (p : Int) = (p : Int) := by rw [IntKind.wrap_i64]; omega
   have xpl : (p : Int) < (i : Int) := by omega
   have xp0 : ¬ (p : Int) < 0 := by omega
   have z0 : decide ((0 : Int) < (q : Int)) = true := decide_eq_true (by omega)
   have z0' : decide (0 < q) = true := decide_eq_true (by omega)
   obtain ⟨yy, _⟩ := (HS.out.1.kept HZ.out.1 (by simp)).eight hy
   clear hy hp
   by_cases hv : x.id < y.id
   ·have hv1 : decide (x.id < y.id) = true := decide_eq_true hv
    have HV := iH hv
    clear hv h0
    generalize y.id = yi at yy hv1
    generalize x.id = xi at y0 hv1
    go_wp2_with fail
    go_quiet (fail)
    have HZ2 := iH (show Kept wo (wr.drewN nq) [] /\ ∀ j y, p <= j -> o[j]? = some y -> x.id < y.id from ⟨HZ.out.1.drewN nq, fun j z hj hz => by
     by_cases e : j = p
     ·subst e
      rw [HY.out] at hz
      cases hz
      exact HV.out
     ·exact HZ.out.2 j z (by omega) hz⟩)
    clear y0 yy
    generalize wr.drewN nq = wz at HZ2 ⊢
    go_wp2
    go_roundg p
    case measure => omega
    case rel => exact ⟨p, by go_num, by omega, Nat.le_refl _, HZ2⟩
   have hv1 : decide (x.id < y.id) = false := decide_eq_false hv
   have HQ := iH (show ∀ y, 0 < q -> o[q - 1]? = some y -> y.id <= x.id from fun z _ hz => by
    rw [<- HP.out, HY.out] at hz
    cases hz
    omega)
   clear hv h0
   generalize y.id = yi at yy hv1
   generalize x.id = xi at y0 hv1
   go_wp2_with fail
   go_quiet (fail)
   have HZ2 := iH (And.intro (HZ.out.1.drewN nq) HZ.out.2)
   clear y0 yy
   generalize wr.drewN nq = wz at HZ2 ⊢
   have hwz : w.heap.size <= wz.heap.size := by have := HZ2.out.1.size; omega
   go_wp2_with (at_builtin; refine xqe _ rfl (.tmp 33) (.tmp 36) 57 57 rfl w.heap.size 50 i0 _ 8 80 Tryz.underlying57 I.out.1 I.out.2.1 I.out.2.2.1 I.out.2.2.2 rfl (.slice none 0 0) 0 [] rfl (OwnE.nil _ _ _) _ q (ecs (o.take q)) rfl ?src (by unfold maxLen; omega) (by omega) (by first | assumption | omega | (simp; omega)) ?next)
   case src => have := ((HS.out.1.kept HZ2.out.1 (by simp)).takeR (by have := HS.out.2.1; omega) : RdE wz _ (o.take q)).src (P := Tryz.prog) Tryz.underlying57; rw [List.length_take, Nat.min_eq_left (by have := HS.out.2.1; omega)] at this; exact this
   case next =>
   intro v2 w2 hown hgrow hl2; intros
   have NB : v2.ownBlock ≠ some g := by
    intro hz
    have hgl := (HS.out.1.lt g rfl).2
    have hzs := HZ2.out.1.size
    rcases hl2 with h | ⟨g9, h, hg9⟩
    ·rw [h] at hz; simp [Value.ownBlock] at hz
    rw [h] at hz; simp only [Option.some.injEq] at hz; subst hz; omega
   have ho : OwnE w2 w.heap.size 50 v2 (o.take q) := by unfold OwnE; rw [List.length_take, Nat.min_eq_left (by have := HS.out.2.1; omega)]; simpa using hown
   have hk : Kept w w2 [] := (HS.out.2.2.2.2.trans HZ2.out.1 (by simp)).grown hgrow (fun k hk => by simp [Value.ownBlock] at hk)
   have hkr : Kept wo w2 [] := HZ2.out.1.grown hgrow (fun k hk => by simp [Value.ownBlock] at hk)
   obtain ⟨b9, o9, e9, c0, c1, c2, c3, c4, c5, c6, c7⟩ := RX.out w2 hk
   simp only [Option.some.injEq, Addr.mk.injEq] at e9
   obtain ⟨rfl, rfl, _⟩ := e9
   have Ho := iH ho; have Hk := iH hk; have Hkr := iH hkr; have HNB := iH NB
   have hw2 : w.heap.size <= w2.heap.size := hk.size
   clear ho hk hkr hown hgrow hl2 NB
   go_wp2_with (at_builtin; refine xqe _ rfl (.tmp 38) (.tmp 43) 57 57 rfl w.heap.size 50 i0 _ 8 80 Tryz.underlying57 I.out.1 I.out.2.1 I.out.2.2.1 I.out.2.2.2 rfl _ q (ecs (o.take q)) rfl ?hown _ 1 x.cs.toList rfl (src_ev w2 x) (by unfold maxLen; omega) (by omega) (by first | assumption | omega | (simp; omega)) ?next)
   case hown => have := World.ownsRow.alloc Ho.out (.cells x.cs 50); rw [List.length_take, Nat.min_eq_left (by have := HS.out.2.1; omega)] at this; exact this
   case next =>
   intro v3 w3 hown hgrow; intros
   have ho : OwnE w3 w.heap.size 50 v3 (o.take q ++ [x]) := by unfold OwnE; rw [<- yqw, List.length_append, List.length_take, Nat.min_eq_left (by have := HS.out.2.1; omega)]; exact hown
   have hg : ∀ k, v2.ownBlock = some k -> w.heap.size <= k := fun k hk => (Ho.out.lt k hk).1
   have hk : Kept w w3 [] := (Hk.out.alloc (.cells x.cs 50)).grown hgrow (fun k hk => .inr (hg k hk))
   have hor : OwnE w3 w.heap.size 50 (.slice (some ⟨g, 0, none⟩) i cp) o := ((HS.out.1.kept (Hkr.out.alloc (.cells x.cs 50)) (by simp))).fo ((Fo.refl (fun k => v2.ownBlock = some k) _).grown hgrow (fun k hk => .inl hk)) (fun k hk => by simp only [Value.ownBlock, Option.some.injEq] at hk; subst hk; exact HNB.out)
   have Hor := iH hor
   have Ho3 := iH ho; have Hk3 := iH hk
   have hw3 : w.heap.size <= w3.heap.size := hk.size
   clear ho hk hown hgrow hg hor c0 c1 c2 c3 c4 c5 c6 c7
   by_cases hcq : cp = q
   ·have HD0 : o.drop q = [] := List.drop_of_length_le (by have := HG.out.1; have := HG.out.2; omega)
    have hic : i = q := by have := HG.out.1; have := HG.out.2; omega
    have HD0 := iH HD0
    have hiq := iH hic
    subst hcq
    subst hic
    go_wp2_with (at_builtin; refine xqe _ rfl (.tmp 45) (.tmp 48) 57 57 rfl w.heap.size 50 i0 _ 8 80 Tryz.underlying57 I.out.1 I.out.2.1 I.out.2.2.1 I.out.2.2.2 rfl _ (i + 1) (ecs (o.take i ++ [x])) rfl ?hown _ 0 (ecs (([] : List Ev))) rfl ?src (by unfold maxLen; omega) (by omega) (by first | assumption | omega | (simp; omega)) ?next)
    case hown => have := Ho3.out; unfold OwnE at this; rw [List.length_append, List.length_take, Nat.min_eq_left (by have := HS.out.2.1; omega)] at this; exact this
    case src => have := (rdE_no (some ⟨g, 0, none⟩) 0 (by simp) : RdE w3 _ (([] : List Ev))).src (P := Tryz.prog) Tryz.underlying57; simpa using this
    case next =>
    intro v4 w4 hown hgrow; intros
    have ho : OwnE w4 w.heap.size 50 v4 (o.take i ++ x :: o.drop i) := by
     have e1 : o.take i ++ x :: o.drop i = (o.take i ++ [x]) ++ ([] : List Ev) := by rw [HD0.out]; simp
     rw [e1]; unfold OwnE; rw [xqB, List.length_append, List.length_append, List.length_take, Nat.min_eq_left (by have := HS.out.2.1; omega)]; exact hown
    have hk : Kept w w4 [] := Hk3.out.grown hgrow (fun k hk => .inr (Ho3.out.lt k hk).1)
    obtain ⟨u9, n9, rfl⟩ := ho.shape
    have hlen : (o.take i ++ x :: o.drop i).length = i + 1 := by rw [List.length_append, List.length_cons, List.length_take, List.length_drop, HS.out.2.1]; omega
    rw [hlen] at ho ⊢
    have pa := put_at HS.out.2.2.1 HS.out.2.2.2.1 HX.out (by have := HS.out.2.1; omega) HZ2.out.2 HQ.out
    have R := iH (And.intro ho (And.intro hlen (And.intro pa.1 (And.intro pa.2 hk))))
    clear ho hk hown hgrow hlen pa
    go_wp2
    go_roundg (n - (i + 1))
    case measure => omega
    case rel => exact ⟨i + 1, _, _, _, rfl, by go_num, by omega, by omega, R⟩
   have x5 : (q : Int) < (cp : Int) := by have := HG.out.1; have := HG.out.2; omega
   have x6 : (q : Int) <= (i : Int) := by omega
   go_wp2_with (at_builtin; refine xqe _ rfl (.tmp 45) (.tmp 48) 57 57 rfl w.heap.size 50 i0 _ 8 80 Tryz.underlying57 I.out.1 I.out.2.1 I.out.2.2.1 I.out.2.2.2 rfl _ (q + 1) (ecs (o.take q ++ [x])) rfl ?hown _ (i - q) (ecs (o.drop q)) rfl ?src (by unfold maxLen; omega) (by omega) (by first | assumption | omega | (simp; omega)) ?next)
   case hown => have := Ho3.out; unfold OwnE at this; rw [List.length_append, List.length_take, Nat.min_eq_left (by have := HS.out.2.1; omega)] at this; exact this
   case src => have := (Hor.out.dropR (by have := HS.out.2.1; omega) : RdE w3 _ (o.drop q)).src (P := Tryz.prog) Tryz.underlying57; rw [List.length_drop, HS.out.2.1] at this; exact this
   case next =>
   intro v4 w4 hown hgrow; intros
   have ho : OwnE w4 w.heap.size 50 v4 (o.take q ++ x :: o.drop q) := by
    have e1 : o.take q ++ x :: o.drop q = (o.take q ++ [x]) ++ o.drop q := by simp
    rw [e1]; unfold OwnE; rw [xqB, List.length_append, List.length_append, List.length_take, Nat.min_eq_left (by have := HS.out.2.1; omega), List.length_drop, HS.out.2.1]; exact hown
   have hk : Kept w w4 [] := Hk3.out.grown hgrow (fun k hk => .inr (Ho3.out.lt k hk).1)
   obtain ⟨u9, n9, rfl⟩ := ho.shape
   have hlen : (o.take q ++ x :: o.drop q).length = i + 1 := by rw [List.length_append, List.length_cons, List.length_take, List.length_drop, HS.out.2.1]; omega
   rw [hlen] at ho ⊢
   have pa := put_at HS.out.2.2.1 HS.out.2.2.2.1 HX.out (by have := HS.out.2.1; omega) HZ2.out.2 HQ.out
   have R := iH (And.intro ho (And.intro hlen (And.intro pa.1 (And.intro pa.2 hk))))
   clear ho hk hown hgrow hlen pa
   go_wp2
   go_roundg (n - (i + 1))
   case measure => omega
   case rel => exact ⟨i + 1, _, _, _, rfl, by go_num, by omega, by omega, R⟩
  have x1 : ¬ (i : Int) < (n : Int) := by omega
  obtain rfl : i = n := by omega
  go_wp2
  go_ret
  obtain ⟨h1, h2, h3, h4, h5⟩ := HS.out
  rw [List.take_of_length_le (by rw [HN.out]; exact Nat.le_refl _)] at h4
  rw [<- srt_is xq8 h3 h4]
  exact ⟨_, rfl, h1, h5⟩
variable {T : TypeId} {F : Nat -> Option Value} {w w' : World} {B h oo c : Nat} {V : Nat -> Value} {l : Nat -> List Ev}
theorem rall_any (a : So T F w B h oo V l c) (hl : ∀ i, i < 3 -> (l i).length < 1000000) (hs : (pre l 3).length < 1000000) :
 Calls Tryz.prog 71 #[.pointer (some ⟨h, oo, none⟩)] w fun e w' => ∃ v', e = .returned v' /\ OwnE w' w.heap.size 50 v' (srt byId (pre l 3)) /\ Kept w w' [] := by
 obtain ⟨i0, hi0, hz0, hz1, hzb⟩ := info_parts Tryz.infoEv_g6
 have I := iH (And.intro hi0 (And.intro hz0 (And.intro hz1 hzb)))
 have A := iH a
 have HP := iH (pre_length l hl)
 have HLn := iH hl
 have HSn := iH hs
 clear a hl hs hi0 hz0 hz1 hzb
 go_enter Tryz.func71, Tryz.ntmps71
 go_wp2
 go_loopg [3, 4] 3 (fun kx s3 s4 wr => ∃ (k : Nat) (v : Value), s4 = .int .i64 k /\ s3 = v /\ k <= 3 /\ 3 - k <= kx /\ RowKit.Hid (OwnE wr w.heap.size 50 v (pre l k) /\ Kept w wr []))
 case atStart => exact ⟨0, _, rfl, rfl, by omega, by omega, OwnE.nil _ _ _, Kept.refl _ _⟩
 case round =>
  obtain ⟨k, v, rfl, rfl, hk3, hkx, HO⟩ := hrel
  by_cases hlt : k < 3
  ·have x1 : (k : Int) < 3 := by omega
   have x2 : ¬ (3 : Int) <= (k : Int) := by omega
   obtain ⟨u, cp, e⟩ := A.out.shape k hlt
   have ck := ((A.out.keep HO.out.2).cell k hlt).1
   have rk := ((A.out.keep HO.out.2).own k hlt).rd
   rw [e] at ck rk
   have RK := iH rk
   obtain ⟨m, hm⟩ : ∃ m, m = (l k).length := ⟨_, rfl⟩
   have hmb : m < 1000000 := by have := HLn.out k hlt; omega
   rw [<- hm] at ck
   have HM := iH hm
   obtain ⟨n, hn⟩ : ∃ n, n = (pre l k).length := ⟨_, rfl⟩
   have hn3 : n <= 3000000 := by have := HP.out k hk3; omega
   have HN := iH hn
   have hbr : w.heap.size <= wr.heap.size := HO.out.2.size
   clear rk hm hn e
   go_wp2_with (at_builtin; refine xqe _ rfl (.tmp 9) (.tmp 15) 57 57 rfl w.heap.size 50 i0 _ 8 80 Tryz.underlying57 I.out.1 I.out.2.1 I.out.2.2.1 I.out.2.2.2 rfl _ n (ecs (pre l k)) rfl ?hown _ m (ecs (l k)) rfl ?src (by unfold maxLen; omega) (by omega) hbr ?next)
   case hown => have := HO.out.1; unfold OwnE at this; rw [<- HN.out] at this; exact this
   case src => have := RK.out.src (P := Tryz.prog) Tryz.underlying57; rw [<- HM.out] at this; exact this
   case next =>
   intro v2 w2 hown hgrow; intros
   have ho : OwnE w2 w.heap.size 50 v2 (pre l (k + 1)) := by unfold OwnE; rw [pre, xqB, List.length_append, <- HN.out, <- HM.out]; exact hown
   have hk : Kept w w2 [] := HO.out.2.grown hgrow (fun k hk => .inr (HO.out.1.lt k hk).1)
   have Ho := iH (And.intro ho hk)
   clear ho hk hown hgrow ck HO
   go_wp2
   go_roundg (3 - (k + 1))
   case measure => omega
   case rel => exact ⟨k + 1, v2, by go_num, rfl, by omega, by omega, Ho⟩
  have x1 : ¬ (k : Int) < 3 := by omega
  obtain rfl : k = 3 := by omega
  have hc := rsort_any HO.out.1.rd HSn.out
  have HC := iH hc
  have HK := iH HO.out.2
  clear hc
  go_wp2_with fail
  refine HC.out.mono ?_
  rintro e w2 ⟨v2, rfl, o2, k2⟩
  have hz := HK.out.size
  have O2 := iH (o2.mono hz); have K2 := iH (HK.out.trans k2 (by simp))
  clear o2 k2
  go_wp2
  go_ret
  exact ⟨_, rfl, O2.out, K2.out⟩
def cntX (x : Int) (l : Nat -> List Ev) : Nat -> Nat
 | 0 => 0
 | k + 1 => cntX x l k + ((l k).filter fun r => ofX x r).length
theorem flt_not {α : Type} (p : α -> Bool) (l : List α) : (l.filter fun a => !p a).length + (l.filter p).length = l.length := by
 induction l with
 | nil => rfl
 | cons a t ih =>
 cases h : p a
 ·rw [List.filter_cons, List.filter_cons, h]
  simp only [Bool.not_false, if_true, Bool.false_eq_true, if_false, List.length_cons]
  omega
 rw [List.filter_cons, List.filter_cons, h]
 simp only [Bool.not_true, if_true, Bool.false_eq_true, if_false, List.length_cons]
 omega
theorem cntX_3 (x : Int) (l : Nat -> List Ev) : cntX x l 3 = lenN l - lenN (forL x l) := by
 have h0 := flt_not (fun r => ofX x r) (l 0)
 have h1 := flt_not (fun r => ofX x r) (l 1)
 have h2 := flt_not (fun r => ofX x r) (l 2)
 simp only [cntX, lenN, forL]
 omega
theorem cntX_le (x : Int) (l : Nat -> List Ev) (hl : ∀ i, i < 3 -> (l i).length < 1000000) (k : Nat) (hk : k <= 3) : cntX x l k <= k * 1000000 := by
 induction k with
 | zero => simp [cntX]
 | succ k ih =>
 have h1 := ih (by omega)
 have h2 := List.length_filter_le (fun r => ofX x r) (l k)
 have h3 := hl k (by omega)
 simp only [cntX]
 omega
theorem hit_take {P : Ev -> Bool} {m : List Ev} {j : Nat} {r : Ev} (h : m[j]? = some r) (hp : P r = true) : (m.take (j + 1)).filter P = (m.take j).filter P ++ [r] := by
 simp [List.take_add_one, h, hp]
theorem miss_take {P : Ev -> Bool} {m : List Ev} {j : Nat} {r : Ev} (h : m[j]? = some r) (hp : P r = false) : (m.take (j + 1)).filter P = (m.take j).filter P := by
 simp [List.take_add_one, h, hp]
theorem rforget_any (a : So T F w B h oo V l c) (hl : ∀ i, i < 3 -> (l i).length < 1000000) (x : Int) :
 Calls Tryz.prog 53 #[.pointer (some ⟨h, oo, none⟩), .int .i64 x] w fun e w' => e = .returned (.int .i64 (lenN l - lenN (forL x l) : Nat)) /\ ∃ V', So T F w' B h oo V' (forL x l) c /\ Stp (xqy h V) (xqy h V') w w' := by
 obtain ⟨i0, hi0, hz0, hz1, hzb⟩ := info_parts Tryz.infoEv_g6
 have I := iH (And.intro hi0 (And.intro hz0 (And.intro hz1 hzb)))
 have A := iH (show So T F w B h oo V (flK x l 0) c from a.congr (fun i _ => by unfold flK; rw [if_neg (by omega)]))
 have HLn := iH hl
 have HCN := iH (cntX_le x l hl)
 rw [<- cntX_3]
 clear a hl hi0 hz0 hz1 hzb
 go_enter Tryz.func53, Tryz.ntmps53
 go_wp2
 go_loopg [5, 6, 7, 8] 3 (fun kx s5 s6 _ _ wr => ∃ (k : Nat) (Vk : Nat -> Value), s6 = .int .i64 k /\ s5 = .int .i64 (cntX x l k : Nat) /\ k <= 3 /\ 3 - k <= kx /\ RowKit.Hid (So T F wr B h oo Vk (flK x l k) c /\ Stp (xqy h V) (xqy h Vk) w wr))
 case atStart => exact ⟨0, V, rfl, rfl, by omega, by omega, A.out, Stp.refl _ _⟩
 case round =>
  obtain ⟨k, Vk, rfl, rfl, hk3, hkx, HO⟩ := hrel
  obtain ⟨wo, hwo⟩ : ∃ wo, wo = wr := ⟨_, rfl⟩
  subst hwo
  by_cases hlt : k < 3
  ·have x1 : (k : Int) < 3 := by omega
   have x2 : ¬ (3 : Int) <= (k : Int) := by omega
   have ek : flK x l k k = l k := by unfold flK; rw [if_neg (by omega)]
   obtain ⟨u, cp, e⟩ := HO.out.1.shape k hlt
   rw [ek] at e
   have RK := iH (fun W (hk : Kept wo W []) => (show W.cell? ⟨h, oo + k, none⟩ = some (.slice u (l k).length cp) /\ RdE W (.slice u (l k).length cp) (l k) from by
    have := HO.out.1.keep hk
    have h1 := (this.cell k hlt).1
    have h2 := (this.own k hlt).rd
    rw [e] at h1 h2
    rw [ek] at h2
    exact ⟨h1, h2⟩))
   obtain ⟨m, hm⟩ : ∃ m, m = (l k).length := ⟨_, rfl⟩
   have hmb : m < 1000000 := by have := HLn.out k hlt; omega
   rw [<- hm] at RK
   have HM := iH hm
   obtain ⟨N, hN⟩ : ∃ N, N = cntX x l k := ⟨_, rfl⟩
   have hNb : N <= 3000000 := by have := HCN.out k hk3; omega
   have HN := iH hN
   rw [<- hN]
   have ck := (RK.out wo (Kept.refl _ _)).1
   clear hm hN e ek
   go_wp2
   go_loopg [5, 7, 8] m (fun kx s5 s7 s8 wz => ∃ (j n : Nat) (v : Value), s8 = .int .i64 j /\ v = s7 /\ s5 = .int .i64 n /\ j <= m /\ n <= N + j /\ m - j <= kx /\ RowKit.Hid (n = N + (((l k).take j).filter fun r => ofX x r).length /\ OwnE wz wo.heap.size 50 v (((l k).take j).filter fun r => !ofX x r) /\ Kept wo wz []))
   case atStart => exact ⟨0, N, _, rfl, rfl, rfl, by omega, by omega, by omega, by simp, by rw [List.take_zero]; exact OwnE.nil _ _ _, Kept.refl _ _⟩
   case round =>
   clear ck
   obtain ⟨j, n, v, rfl, rfl, rfl, hj, hn, hkz, HZ⟩ := hrel
   obtain ⟨ck, rk⟩ := RK.out wr HZ.out.2.2
   by_cases hjm : j < m
   ·have x3 : (j : Int) < (m : Int) := by omega
    obtain ⟨r, hr⟩ : ∃ r, (l k)[j]? = some r := ⟨_, List.getElem?_eq_getElem (by rw [<- HM.out]; exact hjm)⟩
    obtain ⟨bm, om, rfl, c0, c1, c2, c3, c4, c5, c6, c7⟩ := rk.eight hr
    have HR := iH hr
    clear hr
    by_cases hx : r.tx = x
    ·have hx1 : (r.tx == x) = true := beq_iff_eq.2 hx
     have HH := iH (show ofX x r = true from hx1)
     have R := iH (show n + 1 = N + (((l k).take (j + 1)).filter fun r => ofX x r).length /\ OwnE wr wo.heap.size 50 v (((l k).take (j + 1)).filter fun r => !ofX x r) /\ Kept wo wr [] from ⟨by
      rw [hit_take (P := fun r => ofX x r) HR.out HH.out, List.length_append, HZ.out.1]
      simp only [List.length_cons, List.length_nil]
      omega, by rw [miss_take (P := fun r => !ofX x r) HR.out (by simp [HH.out])]; exact HZ.out.2.1, HZ.out.2.2⟩)
     clear hx rk
     generalize r.tx = rt at c1 hx1
     go_wp2
     go_roundg (m - (j + 1))
     case measure => omega
     case rel => exact ⟨j + 1, n + 1, _, by go_num, rfl, by go_num, by omega, by omega, by omega, R⟩
    have hx1 : (r.tx == x) = false := beq_eq_false_iff_ne.2 hx
    have HH := iH (show ofX x r = false from hx1)
    obtain ⟨q, hq⟩ : ∃ q, q = (((l k).take j).filter fun r => !ofX x r).length := ⟨_, rfl⟩
    have hqb : q <= m := by
     have h1 := List.length_filter_le (fun r => !ofX x r) ((l k).take j)
     have h2 := List.length_take_le j (l k)
     omega
    have HQ := iH hq
    have hbr : wo.heap.size <= wr.heap.size := HZ.out.2.2.size
    clear hx hq rk
    obtain ⟨rc, hrc⟩ : ∃ rc, rc = r := ⟨_, rfl⟩
    obtain ⟨b0, b1, b2, b3, b4, b5, b6, b7⟩ := r
    simp only at c0 c1 c2 c3 c4 c5 c6 c7 hx1
    have HRC := iH hrc
    have SB := iH (show Src Tryz.prog 8 57 (.slice (some ⟨wr.heap.size, 0, none⟩) 1 1) 1 [.int .i64 b0, .int .i64 b1, .string b2, .int .i64 b3, .int .i64 b4, .int .u8 b5, .int .i64 b6, .string b7] (wr.alloc (.cells #[.int .i64 b0, .int .i64 b1, .string b2, .int .i64 b3, .int .i64 b4, .int .u8 b5, .int .i64 b6, .string b7] 50)) from src_ev wr ⟨b0, b1, b2, b3, b4, b5, b6, b7⟩)
    clear hrc
    go_wp2_with (at_builtin; refine xqe _ rfl (.tmp 38) (.tmp 48) 57 57 rfl wo.heap.size 50 i0 _ 8 80 Tryz.underlying57 I.out.1 I.out.2.1 I.out.2.2.1 I.out.2.2.2 rfl _ q (ecs (((l k).take j).filter fun r => !ofX x r)) rfl ?hown _ 1 [.int .i64 b0, .int .i64 b1, .string b2, .int .i64 b3, .int .i64 b4, .int .u8 b5, .int .i64 b6, .string b7] rfl SB.out (by unfold maxLen; omega) (by omega) (by simp; omega) ?next)
    case hown => have := World.ownsRow.alloc HZ.out.2.1 (.cells #[.int .i64 b0, .int .i64 b1, .string b2, .int .i64 b3, .int .i64 b4, .int .u8 b5, .int .i64 b6, .string b7] 50); rw [<- HQ.out] at this; exact this
    case next =>
    intro v2 w2 hown hgrow; intros
    have ho : OwnE w2 wo.heap.size 50 v2 (((l k).take (j + 1)).filter fun r => !ofX x r) := by
     rw [hit_take (P := fun r => !ofX x r) HR.out (by rw [HH.out]; rfl)]
     unfold OwnE
     rw [<- yqw, List.length_append, <- HQ.out]
     exact hown
    have hk : Kept wo w2 [] := (HZ.out.2.2.alloc _).grown hgrow (fun k hk => .inr (HZ.out.2.1.lt k hk).1)
    have R := iH (show n = N + (((l k).take (j + 1)).filter fun r => ofX x r).length /\ _ /\ _ from ⟨by rw [miss_take (P := fun r => ofX x r) HR.out HH.out]; exact HZ.out.1, ho, hk⟩)
    clear ho hk hown hgrow c0 c1 c2 c3 c4 c5 c6 c7
    go_wp2
    go_roundg (m - (j + 1))
    case measure => omega
    case rel => exact ⟨j + 1, n, v2, by go_num, rfl, rfl, by omega, by omega, by omega, R⟩
   have x3 : ¬ (j : Int) < (m : Int) := by omega
   obtain rfl : j = m := by omega
   obtain ⟨u9, c9, hv9⟩ := HZ.out.2.1.shape
   subst hv9
   obtain ⟨z1, z2, z3⟩ := HZ.out
   rw [List.take_of_length_le (by rw [HM.out]; exact Nat.le_refl _)] at z1 z2
   obtain ⟨⟨_, fk⟩, s1, s2⟩ := HO.out.1.lay0 hlt z3 (z2.mono HO.out.1.size) (fun k hk => (z2.lt k hk).1)
   rw [<- List.take_of_length_le (l := l k) (i := j) (by rw [HM.out]; exact Nat.le_refl _)] at s1 s2
   have S := iH (And.intro (s1.congr (m := flK x l (k + 1)) (fun i hi => by
    by_cases e : i = k
    ·subst e
     rw [xqL, List.take_of_length_le (by rw [HM.out]; exact Nat.le_refl _)]
     unfold flK forL
     rw [if_pos (by omega)]
    ·rw [yqb _ _ e]
     unfold flK
     by_cases h : i < k
     ·rw [if_pos h, if_pos (by omega)]
     rw [if_neg h, if_neg (by omega)])) (HO.out.2.trans s2))
   have HNN := iH (show n = cntX x l (k + 1) from by rw [z1, HN.out]; rfl)
   clear z1 z2 z3 s1 s2 rk
   go_wp2
   go_roundg (3 - (k + 1))
   case measure => omega
   case rel => exact ⟨k + 1, _, by go_num, by rw [<- HNN.out], by omega, by omega, S⟩
  have x1 : ¬ (k : Int) < 3 := by omega
  obtain rfl : k = 3 := by omega
  go_wp2
  go_ret
  exact ⟨rfl, Vk, HO.out.1.congr (fun i hi => by unfold flK; rw [if_pos hi]), HO.out.2⟩
end Go.Proofs.YticiofkiffgclaaGreat
