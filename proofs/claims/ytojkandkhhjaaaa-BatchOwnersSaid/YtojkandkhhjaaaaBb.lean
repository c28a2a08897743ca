/-
  Events: the library's and the document's helpers (cells, appends, the document's Sort and Same).
-/
import Derived.Test.YtojkandkhhjaaaaSoj
import Derived.Laws.StructEq
import Derived.BigQuiet
import Derived.Deep.DeepCutAuto
import Derived.Lib.SliceRun
import Derived.LoopTactic
namespace Go.Proofs.Ytojkandkhhjaaaa
set_option linter.unusedVariables false
open Go.RowKit

variable {w w' : World} {base : Nat} {l : List Ev}

theorem OwnE.fo {base : Nat} {e : TypeId} {v : Value} {m : List Ev} {O : Nat → Prop} (x : OwnE w base e v m) (hf : Fo O w w') (he : ∀ g, v.ownBlock = some g → ¬ O g) : OwnE w' base e v m := ownsRow_fo x hf he

theorem Try.infoEv : (Try.prog.info? 42).map (fun i => (i.zero, i.size, i.bytes)) = some (some (.agg #[.int .i64 0, .int .i64 0, .string ByteArray.empty, .int .i64 0, .int .i64 0, .int .u8 0, .int .i64 0, .string ByteArray.empty]), 8, 80) := by kernel_rfl

theorem ev_cells {w : World} {z : Nat} {b0 b1 b3 b4 b5 b6 : Int} {b2 b7 : ByteArray} {T : TypeId} (hz : w.heap[z]? = some (.cells #[.int .i64 b0, .int .i64 b1, .string b2, .int .i64 b3, .int .i64 b4, .int .u8 b5, .int .i64 b6, .string b7] T (0, 0))) :
    w.cell? ⟨z, 0, none⟩ = some (.int .i64 b0) ∧ w.cell? ⟨z, 1, none⟩ = some (.int .i64 b1) ∧ w.cell? ⟨z, 2, none⟩ = some (.string b2) ∧ w.cell? ⟨z, 3, none⟩ = some (.int .i64 b3) ∧ w.cell? ⟨z, 4, none⟩ = some (.int .i64 b4) ∧ w.cell? ⟨z, 5, none⟩ = some (.int .u8 b5) ∧ w.cell? ⟨z, 6, none⟩ = some (.int .i64 b6) ∧ w.cell? ⟨z, 7, none⟩ = some (.string b7) := by
  refine ⟨?_, ?_, ?_, ?_, ?_, ?_, ?_, ?_⟩ <;> (rw [cell_of_row _ _ _ _ _ _ hz]; rfl)

theorem ecs_snoc (l : List Ev) (e : Ev) : ecs l ++ e.cs.toList = ecs (l ++ [e]) := by rw [ecs_append]; simp [ecs]

theorem ev_frozen {w : World} {g : Nat} {cs : Array Value} {T : TypeId} (h : w.heap[g]? = some (.cells cs T (0, 0))) : w.frozen? ⟨g, 0, none⟩ = false ∧ w.frozen? ⟨g, 1, none⟩ = false ∧ w.frozen? ⟨g, 2, none⟩ = false ∧ w.frozen? ⟨g, 3, none⟩ = false ∧ w.frozen? ⟨g, 4, none⟩ = false ∧ w.frozen? ⟨g, 5, none⟩ = false ∧ w.frozen? ⟨g, 6, none⟩ = false ∧ w.frozen? ⟨g, 7, none⟩ = false :=
  ⟨frozen_of_row _ _ _ _ _ h, frozen_of_row _ _ _ _ _ h, frozen_of_row _ _ _ _ _ h, frozen_of_row _ _ _ _ _ h, frozen_of_row _ _ _ _ _ h, frozen_of_row _ _ _ _ _ h, frozen_of_row _ _ _ _ _ h, frozen_of_row _ _ _ _ _ h⟩

/-- Where the first one is of which P holds; -1: there is none. -/
def eidx (P : Ev → Bool) (l : List Ev) : Int := match l.findIdx? P with | some i => i | none => -1

theorem eidx_hit {P : Ev → Bool} {l : List Ev} {k : Nat} {r : Ev} (hr : l[k]? = some r) (hp : P r = true) (hb : ∀ j s, j < k → l[j]? = some s → P s = false) : l.findIdx? P = some k := by
  obtain ⟨hk, e⟩ := List.getElem?_eq_some_iff.1 hr
  rw [List.findIdx?_eq_some_iff_getElem]
  refine ⟨hk, by rw [e]; exact hp, fun j hj => ?_⟩
  rw [hb j l[j] hj (List.getElem?_eq_getElem _)]
  simp

theorem eidx_miss {P : Ev → Bool} {l : List Ev} (hb : ∀ j s, j < l.length → l[j]? = some s → P s = false) : l.findIdx? P = none := by
  rw [List.findIdx?_eq_none_iff]
  intro s hs
  obtain ⟨j, hj, e⟩ := List.mem_iff_getElem.1 hs
  exact hb j s hj (by rw [List.getElem?_eq_getElem hj, e])

/-- One event's cells, each by itself. -/
theorem OwnE.eight {e : TypeId} {g n c : Nat} (h : OwnE w base e (.slice (some ⟨g, 0, none⟩) n c) l) {k : Nat} {r : Ev} (hr : l[k]? = some r) :
    w.cell? ⟨g, k * 8, none⟩ = some (.int .i64 r.id) ∧ w.cell? ⟨g, k * 8 + 1, none⟩ = some (.int .i64 r.tx) ∧ w.cell? ⟨g, k * 8 + 2, none⟩ = some (.string r.ow) ∧ w.cell? ⟨g, k * 8 + 3, none⟩ = some (.int .i64 r.tr) ∧
    w.cell? ⟨g, k * 8 + 4, none⟩ = some (.int .i64 r.tb) ∧ w.cell? ⟨g, k * 8 + 5, none⟩ = some (.int .u8 r.kd) ∧ w.cell? ⟨g, k * 8 + 6, none⟩ = some (.int .i64 r.key) ∧ w.cell? ⟨g, k * 8 + 7, none⟩ = some (.string r.t) := by
  obtain ⟨hk, rfl⟩ := List.getElem?_eq_some_iff.1 hr
  obtain ⟨g', hg, hc⟩ := h.at k hk
  simp only [Option.some.injEq, Addr.mk.injEq] at hg
  obtain ⟨rfl, _⟩ := hg
  exact ⟨(hc 0 (by decide)).1, (hc 1 (by decide)).1, (hc 2 (by decide)).1, (hc 3 (by decide)).1, (hc 4 (by decide)).1, (hc 5 (by decide)).1, (hc 6 (by decide)).1, (hc 7 (by decide)).1⟩

/-- One event's cells, each by itself. -/
theorem RdE.eight {a : Option Addr} {n c : Nat} {m : List Ev} (x : RdE w (.slice a n c) m) {k : Nat} {r : Ev} (hr : m[k]? = some r) : ∃ b o, a = some ⟨b, o, none⟩ ∧
    w.cell? ⟨b, o + k * 8, none⟩ = some (.int .i64 r.id) ∧ w.cell? ⟨b, o + k * 8 + 1, none⟩ = some (.int .i64 r.tx) ∧ w.cell? ⟨b, o + k * 8 + 2, none⟩ = some (.string r.ow) ∧ w.cell? ⟨b, o + k * 8 + 3, none⟩ = some (.int .i64 r.tr) ∧
    w.cell? ⟨b, o + k * 8 + 4, none⟩ = some (.int .i64 r.tb) ∧ w.cell? ⟨b, o + k * 8 + 5, none⟩ = some (.int .u8 r.kd) ∧ w.cell? ⟨b, o + k * 8 + 6, none⟩ = some (.int .i64 r.key) ∧ w.cell? ⟨b, o + k * 8 + 7, none⟩ = some (.string r.t) := by
  obtain ⟨hk, rfl⟩ := List.getElem?_eq_some_iff.1 hr
  obtain ⟨b, o, rfl, hc⟩ := x.at k hk
  exact ⟨b, o, rfl, hc 0 (by decide), hc 1 (by decide), hc 2 (by decide), hc 3 (by decide), hc 4 (by decide), hc 5 (by decide), hc 6 (by decide), hc 7 (by decide)⟩

/-- An event is itself. -/
theorem ev_ne (b0 b1 b3 b4 b5 b6 : Int) (b2 b7 : ByteArray) (w : World) : (binOp .neq 42 (.agg #[.int .i64 b0, .int .i64 b1, .string b2, .int .i64 b3, .int .i64 b4, .int .u8 b5, .int .i64 b6, .string b7]) (.agg #[.int .i64 b0, .int .i64 b1, .string b2, .int .i64 b3, .int .i64 b4, .int .u8 b5, .int .i64 b6, .string b7])).run Try.prog w = .ok (.bool false) w := by
  go_simp

set_option maxHeartbeats 1000000 in
theorem same_any {va vb : Value} {m : List Ev} (ha : RdE w va m) (hb : RdE w vb m) (hm : m.length < 1000000) :
    Calls Try.prog 13 #[va, vb] w fun e w' => e = .returned (.bool true) ∧ Kept w w' [] := by
  obtain ⟨a, ca, rfl⟩ := ha.shape3
  obtain ⟨b, cb, rfl⟩ := hb.shape3
  have HA := Lib.hid ha; have HB := Lib.hid hb
  obtain ⟨n, hn⟩ : ∃ n, n = m.length := ⟨_, rfl⟩
  have HN := Lib.hid hn
  rw [← hn] at hm ⊢
  clear ha hb hn
  have eqs := ev_ne
  go_enter Try.func13, Try.ntmps13
  go_wp2
  go_loopg [5] n (fun kx s5 wr => ∃ i : Nat, s5 = .int .i64 i ∧ i ≤ n ∧ n - i ≤ kx ∧ RowKit.Hid (Kept w wr []))
  case atStart => exact ⟨0, rfl, by omega, by omega, Kept.refl _ _⟩
  case round =>
    obtain ⟨i, rfl, hi, hkx, HK⟩ := hrel
    by_cases hlt : i < n
    · have x1 : (i : Int) < (n : Int) := by omega
      obtain ⟨r, hr⟩ : ∃ r, m[i]? = some r := ⟨_, List.getElem?_eq_getElem (by rw [← HN.out]; exact hlt)⟩
      have ea := (HA.out.kept HK.out (by simp))
      have eb := (HB.out.kept HK.out (by simp))
      rw [← HN.out] at ea eb
      obtain ⟨ba, oa, rfl, fa⟩ := ea.eight hr
      obtain ⟨bb, ob, rfl, fb⟩ := eb.eight hr
      obtain ⟨b0, b1, b2, b3, b4, b5, b6, b7⟩ := r
      have FA1 := Lib.hid fa; have FB1 := Lib.hid fb
      obtain ⟨p0, p1, p2, p3, p4, p5, p6, p7⟩ := fa
      obtain ⟨q0, q1, q2, q3, q4, q5, q6, q7⟩ := fb
      simp only at p0 p1 p2 p3 p4 p5 p6 p7 q0 q1 q2 q3 q4 q5 q6 q7
      clear hr ea eb
      go_wp2_with fail
      go_quiet (fail)
      have KN := Lib.hid (HK.out.drewN nq)
      clear p0 p1 p2 p3 p4 p5 p6 p7 q0 q1 q2 q3 q4 q5 q6 q7
      generalize wr.drewN nq = wn at KN ⊢
      go_wp2
      go_roundg (n - (i + 1))
      case measure => omega
      case rel => exact ⟨i + 1, by go_num, by omega, by omega, KN⟩
    · have x1 : ¬ (i : Int) < (n : Int) := by omega
      go_wp2
      go_ret
      exact ⟨rfl, HK.out⟩

theorem src_ev (w : World) (e : Ev) : Src Try.prog 8 33 (.slice (some ⟨w.heap.size, 0, none⟩) 1 1) 1 e.cs.toList (w.alloc (.cells e.cs 42)) := by
  refine Src.ofSlice _ Try.underlying33 ⟨w.heap.size, 0, none⟩ 1 1 _ rfl (fun j x hx => ?_) (encE_one e)
  rw [Addr.add_lit, cell_of_row _ _ _ _ _ _ (heap_alloc_new w (.cells e.cs 42)), Nat.zero_add]
  simpa using hx

theorem OwnE.takeR {base g n c q : Nat} {e : TypeId} {m : List Ev} (x : OwnE w base e (.slice (some ⟨g, 0, none⟩) n c) m) (hq : q ≤ m.length) : RdE w (.slice (some ⟨g, 0, none⟩) q c) (m.take q) := by
  have hl : (m.take q).length = q := by rw [List.length_take]; omega
  rcases x.2 with ⟨h0, _⟩ | ⟨g', cap, cur, h0, hb, hg, hnc, hcm, hcs, ht⟩
  · cases h0
  simp only [Value.slice.injEq, Option.some.injEq, Addr.mk.injEq] at h0
  obtain ⟨⟨rfl, _⟩, rfl, rfl⟩ := h0
  refine ⟨some ⟨g, 0, none⟩, c, by rw [hl], by omega, by simp, fun _ => ⟨g, 0, rfl, fun k hk => ?_⟩⟩
  rw [hl] at hk
  obtain ⟨u, hu⟩ := ecs_some m k (by omega)
  have := World.ownsRow.cells x (g := g) rfl k u hu
  rw [Addr.add_lit] at this
  rw [this, ← hu]
  conv => lhs; rw [← List.take_append_drop q m, ecs_append]
  rw [List.getElem?_append_left (by rw [ecs_length, hl]; exact hk)]

theorem OwnE.dropR {base g n c q : Nat} {e : TypeId} {m : List Ev} (x : OwnE w base e (.slice (some ⟨g, 0, none⟩) n c) m) (hq : q ≤ m.length) : RdE w (.slice (some ⟨g, q * 8, none⟩) (m.length - q) (c - q)) (m.drop q) := by
  have hl : (m.drop q).length = m.length - q := by rw [List.length_drop]
  rcases x.2 with ⟨h0, _⟩ | ⟨g', cap, cur, h0, hb, hg, hnc, hcm, hcs, ht⟩
  · cases h0
  simp only [Value.slice.injEq, Option.some.injEq, Addr.mk.injEq] at h0
  obtain ⟨⟨rfl, _⟩, rfl, rfl⟩ := h0
  refine ⟨some ⟨g, q * 8, none⟩, c - q, by rw [hl], by omega, by simp, fun _ => ⟨g, q * 8, rfl, fun k hk => ?_⟩⟩
  rw [hl] at hk
  obtain ⟨u, hu⟩ := ecs_some m (q * 8 + k) (by omega)
  have := World.ownsRow.cells x (g := g) rfl (q * 8 + k) u hu
  rw [Addr.add_lit, Nat.zero_add] at this
  rw [this, ← hu]
  have ht' : (m.take q).length = q := by rw [List.length_take]; omega
  conv => lhs; rw [← List.take_append_drop q m, ecs_append]
  rw [List.getElem?_append_right (by rw [ecs_length, ht']; omega), ecs_length, ht']
  congr 1
  omega

theorem rdE_no (a : Option Addr) (c : Nat) (ha : a = none → c = 0) : RdE w (.slice a 0 c) [] := ⟨a, c, rfl, Nat.zero_le _, ha, fun h => absurd rfl h⟩

/-- One more, where the search from behind has found its place. -/
theorem put_at {o m : List Ev} {x : Ev} {i q : Nat} (hs : Srt byId o) (hst : Stab byId (m.take i) o) (hx : m[i]? = some x) (hq : q ≤ o.length) (h1 : ∀ j y, q ≤ j → o[j]? = some y → x.id < y.id) (h2 : ∀ y, 0 < q → o[q - 1]? = some y → y.id ≤ x.id) :
    Srt byId (o.take q ++ x :: o.drop q) ∧ Stab byId (m.take (i + 1)) (o.take q ++ x :: o.drop q) := by
  have hp : ∀ y ∈ o.take q, byId y x = true := by
    intro y hy
    obtain ⟨j, hj, e⟩ := List.mem_iff_getElem.1 hy
    rw [List.length_take] at hj
    rw [List.getElem_take] at e
    have h3 := h2 (o[q - 1]'(by omega)) (by omega) (List.getElem?_eq_getElem _)
    by_cases e1 : j = q - 1
    · subst e1; rw [e] at h3; simpa [byId] using h3
    · have := List.pairwise_iff_getElem.1 hs j (q - 1) (by omega) (by omega) (by omega)
      rw [e] at this
      simp only [byId, decide_eq_true_eq] at this ⊢
      omega
  have hr : ∀ y ∈ o.drop q, byId y x = false := by
    intro y hy
    obtain ⟨j, hj, e⟩ := List.mem_iff_getElem.1 hy
    rw [List.length_drop] at hj
    rw [List.getElem_drop] at e
    have := h1 (q + j) y (by omega) (by rw [List.getElem?_eq_getElem (by omega), e])
    simp only [byId, decide_eq_false_iff_not]
    omega
  obtain ⟨s1, s2⟩ := insert_at tot_byId (p := o.take q) (q := o.drop q) (x := x) (by rw [List.take_append_drop]; exact hs) hp hr
  rw [List.take_append_drop] at s2
  refine ⟨s1, Stab.trans ?_ s2⟩
  have e : m.take (i + 1) = m.take i ++ [x] := by rw [List.take_add_one, hx]; rfl
  rw [e]
  exact hst.append (Stab.refl byId [x])

set_option maxHeartbeats 8000000 in
set_option maxRecDepth 100000 in
theorem rsort_any {v : Value} {m : List Ev} (hm : RdE w v m) (hl : m.length < 1000000) :
    Calls Try.prog 36 #[v] w fun e w' => ∃ v', e = .returned v' ∧ OwnE w' w.heap.size 42 v' (srt byId m) ∧ Kept w w' [] := by
  obtain ⟨a, ca, rfl⟩ := hm.shape3
  have HM := Lib.hid hm
  obtain ⟨n, hn⟩ : ∃ n, n = m.length := ⟨_, rfl⟩
  have HN := Lib.hid hn
  rw [← hn] at hl ⊢
  obtain ⟨i0, hi0, hz0, hz1, hzb⟩ := info_parts Try.infoEv
  have I := Lib.hid (And.intro hi0 (And.intro hz0 (And.intro hz1 hzb)))
  clear hm hn hi0 hz0 hz1 hzb
  go_enter Try.func36, Try.ntmps36
  go_wp2
  go_loopg [3, 4, 5, 6] n (fun kx s3 s4 _ _ wr => ∃ (i : Nat) (u : Option Addr) (cp : Nat) (o : List Ev), s3 = .slice u i cp ∧ s4 = .int .i64 i ∧ i ≤ n ∧ n - i ≤ kx ∧ RowKit.Hid (OwnE wr w.heap.size 42 (.slice u i cp) o ∧ o.length = i ∧ Srt byId o ∧ Stab byId (m.take i) o ∧ Kept w wr []))
  case atStart => exact ⟨0, none, 0, [], rfl, rfl, by omega, by omega, OwnE.nil _ _ _, rfl, List.Pairwise.nil, Stab.refl _ _, Kept.refl _ _⟩
  case round =>
    obtain ⟨i, u, cp, o, rfl, rfl, hi, hkx, HS⟩ := hrel
    obtain ⟨wo, hwo⟩ : ∃ wo, wo = wr := ⟨_, rfl⟩
    subst hwo
    by_cases hlt : i < n
    · have x1 : (i : Int) < (n : Int) := by omega
      obtain ⟨x, hx⟩ : ∃ r, m[i]? = some r := ⟨_, List.getElem?_eq_getElem (by rw [← HN.out]; exact hlt)⟩
      have HX := Lib.hid hx
      obtain ⟨bm, om, ham, _⟩ := HM.out.eight hx
      subst ham
      have RX := Lib.hid (fun W (hk : Kept w W []) => (HM.out.kept hk (by simp)).eight hx)
      clear hx
      have hwr : w.heap.size ≤ wo.heap.size := HS.out.2.2.2.2.size
      rcases HS.out.1.2 with ⟨hu, h00⟩ | ⟨g, cap, cur, hu, hbg, hgg, hnc, hcm, hcs, htk⟩
      · simp only [Value.slice.injEq] at hu
        obtain ⟨rfl, h00', rfl⟩ := hu
        obtain rfl : i = 0 := h00'
        go_wp2
        go_loopg [5] 0 (fun kx s5 wz => s5 = .int .i64 0 ∧ RowKit.Hid (Kept wo wz [] ∧ True))
        case atStart => exact ⟨rfl, Kept.refl _ _, trivial⟩
        case round =>
          obtain ⟨rfl, HZ⟩ := hrel
          go_wp2_with fail
          go_quiet (fail)
          have HZ := Lib.hid (And.intro (HZ.out.1.drewN nq) trivial)
          generalize wr.drewN nq = wz at HZ ⊢
          have hwz : w.heap.size ≤ wz.heap.size := by have := HZ.out.1.size; omega
          go_wp2_with (at_builtin; refine wpList_append_src _ rfl (.tmp 33) (.tmp 36) 33 33 rfl w.heap.size 42 i0 _ 8 80 Try.underlying33 I.out.1 I.out.2.1 I.out.2.2.1 I.out.2.2.2 rfl (.slice none 0 0) 0 [] rfl (OwnE.nil _ _ _) _ 0 (ecs (([] : List Ev))) rfl ?src (by unfold maxLen; omega) (by omega) (by first | assumption | omega | (simp; omega)) ?next)
          case src => have := (rdE_no none 0 (fun _ => rfl) : RdE wz _ (([] : List Ev))).src (P := Try.prog) Try.underlying33; exact this
          case next =>
            intro v2 w2 hown hgrow; intros
            have ho : OwnE w2 w.heap.size 42 v2 (([] : List Ev)) := by unfold OwnE; simpa using hown
            have hk : Kept w w2 [] := (HS.out.2.2.2.2.trans HZ.out.1 (by simp)).grown hgrow (fun k hk => by simp [Value.ownBlock] at hk)
            have hkr : Kept wo w2 [] := HZ.out.1.grown hgrow (fun k hk => by simp [Value.ownBlock] at hk)
            obtain ⟨b9, o9, e9, c0, c1, c2, c3, c4, c5, c6, c7⟩ := RX.out w2 hk
            simp only [Option.some.injEq, Addr.mk.injEq] at e9
            obtain ⟨rfl, rfl, _⟩ := e9
            simp only [Nat.zero_mul, Nat.add_zero] at c0 c1 c2 c3 c4 c5 c6 c7
            have Ho := Lib.hid ho; have Hk := Lib.hid hk; have Hkr := Lib.hid hkr
            have hw2 : w.heap.size ≤ w2.heap.size := hk.size
            clear ho hk hkr hown hgrow
            go_wp2_with (at_builtin; refine wpList_append_src _ rfl (.tmp 38) (.tmp 43) 33 33 rfl w.heap.size 42 i0 _ 8 80 Try.underlying33 I.out.1 I.out.2.1 I.out.2.2.1 I.out.2.2.2 rfl _ 0 (ecs (([] : List Ev))) rfl ?hown _ 1 x.cs.toList rfl (src_ev w2 x) (by unfold maxLen; omega) (by omega) (by first | assumption | omega | (simp; omega)) ?next)
            case hown => have := World.ownsRow.alloc Ho.out (.cells x.cs 42); exact this
            case next =>
              intro v3 w3 hown hgrow; intros
              have ho : OwnE w3 w.heap.size 42 v3 (([] : List Ev) ++ [x]) := by unfold OwnE; rw [← ecs_snoc, List.length_append]; exact hown
              have hg : ∀ k, v2.ownBlock = some k → w.heap.size ≤ k := fun k hk => (Ho.out.lt k hk).1
              have hk : Kept w w3 [] := (Hk.out.alloc (.cells x.cs 42)).grown hgrow (fun k hk => .inr (hg k hk))
              have Ho3 := Lib.hid ho; have Hk3 := Lib.hid hk
              have hw3 : w.heap.size ≤ w3.heap.size := hk.size
              clear ho hk hown hgrow hg c0 c1 c2 c3 c4 c5 c6 c7
              go_wp2_with (at_builtin; refine wpList_append_src _ rfl (.tmp 45) (.tmp 48) 33 33 rfl w.heap.size 42 i0 _ 8 80 Try.underlying33 I.out.1 I.out.2.1 I.out.2.2.1 I.out.2.2.2 rfl _ (0 + 1) (ecs (([] : List Ev) ++ [x])) rfl ?hown (.slice none 0 0) 0 (ecs (([] : List Ev))) rfl ?src (by unfold maxLen; omega) (by omega) (by first | assumption | omega | (simp; omega)) ?next)
              case hown => have := Ho3.out; unfold OwnE at this; rw [List.length_append] at this; exact this
              case src => have := (rdE_no none 0 (fun _ => rfl) : RdE w3 _ (([] : List Ev))).src (P := Try.prog) Try.underlying33; exact this
              case next =>
                intro v4 w4 hown hgrow; intros
                have ho : OwnE w4 w.heap.size 42 v4 (([] : List Ev) ++ x :: ([] : List Ev)) := by
                  have e1 : ([] : List Ev) ++ x :: ([] : List Ev) = (([] : List Ev) ++ [x]) ++ ([] : List Ev) := by simp
                  rw [e1]; unfold OwnE; rw [ecs_append, List.length_append, List.length_append]; exact hown
                have hk : Kept w w4 [] := Hk3.out.grown hgrow (fun k hk => .inr (Ho3.out.lt k hk).1)
                obtain ⟨u9, n9, rfl⟩ := ho.shape
                have hlen : (([] : List Ev) ++ x :: ([] : List Ev)).length = 0 + 1 := by rfl
                rw [hlen] at ho ⊢
                have pa := put_at (o := []) (q := 0) List.Pairwise.nil (by rw [List.take_zero]; exact Stab.refl _ _) HX.out (Nat.zero_le _) (fun j y _ hy => by simp at hy) (fun y h => absurd h (Nat.lt_irrefl 0))
                have R := Lib.hid (And.intro ho (And.intro hlen (And.intro pa.1 (And.intro pa.2 hk))))
                clear ho hk hown hgrow hlen pa
                go_wp2
                go_roundg (n - (0 + 1))
                case measure => omega
                case rel => exact ⟨0 + 1, _, _, _, rfl, by go_num, by omega, by omega, R⟩
      · simp only [Value.slice.injEq] at hu
        obtain ⟨rfl, hio, rfl⟩ := hu
        have xc : (i : Int) ≤ (cp : Int) := by omega
        have HG := Lib.hid (And.intro hnc hio)
        clear hbg hgg hnc hcm hcs htk hio
        go_wp2
        go_loopg [5] i (fun kx s5 wz => ∃ q : Nat, s5 = .int .i64 q ∧ q ≤ i ∧ q ≤ kx ∧ RowKit.Hid (Kept wo wz [] ∧ ∀ j y, q ≤ j → o[j]? = some y → x.id < y.id))
        case atStart => exact ⟨i, rfl, by omega, by omega, Kept.refl _ _, fun j y hj hy => by
          have := (List.getElem?_eq_some_iff.1 hy).1
          have := HS.out.2.1
          omega⟩
        case round =>
          obtain ⟨q, rfl, hq, hkq, HZ⟩ := hrel
          obtain ⟨b9, o9, e9, y0, _⟩ := RX.out wr (HS.out.2.2.2.2.trans HZ.out.1 (by simp))
          simp only [Option.some.injEq, Addr.mk.injEq] at e9
          obtain ⟨rfl, rfl, _⟩ := e9
          have xq : (q : Int) ≤ (cp : Int) := by omega
          by_cases h0 : q = 0
          · have HQ := Lib.hid (show ∀ y, 0 < q → o[q - 1]? = some y → y.id ≤ x.id from fun y h => by omega)
            have z0 : decide ((0 : Int) < (q : Int)) = false := decide_eq_false (by omega)
            have z0' : decide (0 < q) = false := decide_eq_false (by omega)
            have H0 := Lib.hid h0
            clear h0
            go_wp2_with fail
            go_quiet (fail)
            have HZ2 := Lib.hid (And.intro (HZ.out.1.drewN nq) HZ.out.2)
            clear y0
            generalize wr.drewN nq = wz at HZ2 ⊢
            have hwz : w.heap.size ≤ wz.heap.size := by have := HZ2.out.1.size; omega
            go_wp2_with (at_builtin; refine wpList_append_src _ rfl (.tmp 33) (.tmp 36) 33 33 rfl w.heap.size 42 i0 _ 8 80 Try.underlying33 I.out.1 I.out.2.1 I.out.2.2.1 I.out.2.2.2 rfl (.slice none 0 0) 0 [] rfl (OwnE.nil _ _ _) _ q (ecs (o.take q)) rfl ?src (by unfold maxLen; omega) (by omega) (by first | assumption | omega | (simp; omega)) ?next)
            case src => have := ((HS.out.1.kept HZ2.out.1 (by simp)).takeR (by have := HS.out.2.1; omega) : RdE wz _ (o.take q)).src (P := Try.prog) Try.underlying33; rw [List.length_take, Nat.min_eq_left (by have := HS.out.2.1; omega)] at this; exact this
            case next =>
              intro v2 w2 hown hgrow hl2; intros
              have NB : v2.ownBlock ≠ some g := by
                intro hz
                have hgl := (HS.out.1.lt g rfl).2
                have hzs := HZ2.out.1.size
                rcases hl2 with h | ⟨g9, h, hg9⟩
                · rw [h] at hz; simp [Value.ownBlock] at hz
                · rw [h] at hz; simp only [Option.some.injEq] at hz; subst hz; omega
              have ho : OwnE w2 w.heap.size 42 v2 (o.take q) := by unfold OwnE; rw [List.length_take, Nat.min_eq_left (by have := HS.out.2.1; omega)]; simpa using hown
              have hk : Kept w w2 [] := (HS.out.2.2.2.2.trans HZ2.out.1 (by simp)).grown hgrow (fun k hk => by simp [Value.ownBlock] at hk)
              have hkr : Kept wo w2 [] := HZ2.out.1.grown hgrow (fun k hk => by simp [Value.ownBlock] at hk)
              obtain ⟨b9, o9, e9, c0, c1, c2, c3, c4, c5, c6, c7⟩ := RX.out w2 hk
              simp only [Option.some.injEq, Addr.mk.injEq] at e9
              obtain ⟨rfl, rfl, _⟩ := e9
              have Ho := Lib.hid ho; have Hk := Lib.hid hk; have Hkr := Lib.hid hkr; have HNB := Lib.hid NB
              have hw2 : w.heap.size ≤ w2.heap.size := hk.size
              clear ho hk hkr hown hgrow hl2 NB
              go_wp2_with (at_builtin; refine wpList_append_src _ rfl (.tmp 38) (.tmp 43) 33 33 rfl w.heap.size 42 i0 _ 8 80 Try.underlying33 I.out.1 I.out.2.1 I.out.2.2.1 I.out.2.2.2 rfl _ q (ecs (o.take q)) rfl ?hown _ 1 x.cs.toList rfl (src_ev w2 x) (by unfold maxLen; omega) (by omega) (by first | assumption | omega | (simp; omega)) ?next)
              case hown => have := World.ownsRow.alloc Ho.out (.cells x.cs 42); rw [List.length_take, Nat.min_eq_left (by have := HS.out.2.1; omega)] at this; exact this
              case next =>
                intro v3 w3 hown hgrow; intros
                have ho : OwnE w3 w.heap.size 42 v3 (o.take q ++ [x]) := by unfold OwnE; rw [← ecs_snoc, List.length_append, List.length_take, Nat.min_eq_left (by have := HS.out.2.1; omega)]; exact hown
                have hg : ∀ k, v2.ownBlock = some k → w.heap.size ≤ k := fun k hk => (Ho.out.lt k hk).1
                have hk : Kept w w3 [] := (Hk.out.alloc (.cells x.cs 42)).grown hgrow (fun k hk => .inr (hg k hk))
                have hor : OwnE w3 w.heap.size 42 (.slice (some ⟨g, 0, none⟩) i cp) o := ((HS.out.1.kept (Hkr.out.alloc (.cells x.cs 42)) (by simp))).fo ((Fo.refl (fun k => v2.ownBlock = some k) _).grown hgrow (fun k hk => .inl hk)) (fun k hk => by simp only [Value.ownBlock, Option.some.injEq] at hk; subst hk; exact HNB.out)
                have Hor := Lib.hid hor
                have Ho3 := Lib.hid ho; have Hk3 := Lib.hid hk
                have hw3 : w.heap.size ≤ w3.heap.size := hk.size
                clear ho hk hown hgrow hg hor c0 c1 c2 c3 c4 c5 c6 c7
                by_cases hcq : cp = q
                · have HD0 : o.drop q = [] := List.drop_of_length_le (by have := HG.out.1; have := HG.out.2; omega)
                  have hic : i = q := by have := HG.out.1; have := HG.out.2; omega
                  have HD0 := Lib.hid HD0
                  have hiq := Lib.hid hic
                  subst hcq
                  subst hic
                  go_wp2_with (at_builtin; refine wpList_append_src _ rfl (.tmp 45) (.tmp 48) 33 33 rfl w.heap.size 42 i0 _ 8 80 Try.underlying33 I.out.1 I.out.2.1 I.out.2.2.1 I.out.2.2.2 rfl _ (i + 1) (ecs (o.take i ++ [x])) rfl ?hown _ 0 (ecs (([] : List Ev))) rfl ?src (by unfold maxLen; omega) (by omega) (by first | assumption | omega | (simp; omega)) ?next)
                  case hown => have := Ho3.out; unfold OwnE at this; rw [List.length_append, List.length_take, Nat.min_eq_left (by have := HS.out.2.1; omega)] at this; exact this
                  case src => have := (rdE_no (some ⟨g, 0, none⟩) 0 (by simp) : RdE w3 _ (([] : List Ev))).src (P := Try.prog) Try.underlying33; simpa using this
                  case next =>
                    intro v4 w4 hown hgrow; intros
                    have ho : OwnE w4 w.heap.size 42 v4 (o.take i ++ x :: o.drop i) := by
                      have e1 : o.take i ++ x :: o.drop i = (o.take i ++ [x]) ++ ([] : List Ev) := by rw [HD0.out]; simp
                      rw [e1]; unfold OwnE; rw [ecs_append, List.length_append, List.length_append, List.length_take, Nat.min_eq_left (by have := HS.out.2.1; omega)]; exact hown
                    have hk : Kept w w4 [] := Hk3.out.grown hgrow (fun k hk => .inr (Ho3.out.lt k hk).1)
                    obtain ⟨u9, n9, rfl⟩ := ho.shape
                    have hlen : (o.take i ++ x :: o.drop i).length = i + 1 := by rw [List.length_append, List.length_cons, List.length_take, List.length_drop, HS.out.2.1]; omega
                    rw [hlen] at ho ⊢
                    have pa := put_at HS.out.2.2.1 HS.out.2.2.2.1 HX.out (by have := HS.out.2.1; omega) HZ2.out.2 HQ.out
                    have R := Lib.hid (And.intro ho (And.intro hlen (And.intro pa.1 (And.intro pa.2 hk))))
                    clear ho hk hown hgrow hlen pa
                    go_wp2
                    go_roundg (n - (i + 1))
                    case measure => omega
                    case rel => exact ⟨i + 1, _, _, _, rfl, by go_num, by omega, by omega, R⟩
                · have x5 : (q : Int) < (cp : Int) := by have := HG.out.1; have := HG.out.2; omega
                  have x6 : (q : Int) ≤ (i : Int) := by omega
                  go_wp2_with (at_builtin; refine wpList_append_src _ rfl (.tmp 45) (.tmp 48) 33 33 rfl w.heap.size 42 i0 _ 8 80 Try.underlying33 I.out.1 I.out.2.1 I.out.2.2.1 I.out.2.2.2 rfl _ (q + 1) (ecs (o.take q ++ [x])) rfl ?hown _ (i - q) (ecs (o.drop q)) rfl ?src (by unfold maxLen; omega) (by omega) (by first | assumption | omega | (simp; omega)) ?next)
                  case hown => have := Ho3.out; unfold OwnE at this; rw [List.length_append, List.length_take, Nat.min_eq_left (by have := HS.out.2.1; omega)] at this; exact this
                  case src => have := (Hor.out.dropR (by have := HS.out.2.1; omega) : RdE w3 _ (o.drop q)).src (P := Try.prog) Try.underlying33; rw [List.length_drop, HS.out.2.1] at this; exact this
                  case next =>
                    intro v4 w4 hown hgrow; intros
                    have ho : OwnE w4 w.heap.size 42 v4 (o.take q ++ x :: o.drop q) := by
                      have e1 : o.take q ++ x :: o.drop q = (o.take q ++ [x]) ++ o.drop q := by simp
                      rw [e1]; unfold OwnE; rw [ecs_append, List.length_append, List.length_append, List.length_take, Nat.min_eq_left (by have := HS.out.2.1; omega), List.length_drop, HS.out.2.1]; exact hown
                    have hk : Kept w w4 [] := Hk3.out.grown hgrow (fun k hk => .inr (Ho3.out.lt k hk).1)
                    obtain ⟨u9, n9, rfl⟩ := ho.shape
                    have hlen : (o.take q ++ x :: o.drop q).length = i + 1 := by rw [List.length_append, List.length_cons, List.length_take, List.length_drop, HS.out.2.1]; omega
                    rw [hlen] at ho ⊢
                    have pa := put_at HS.out.2.2.1 HS.out.2.2.2.1 HX.out (by have := HS.out.2.1; omega) HZ2.out.2 HQ.out
                    have R := Lib.hid (And.intro ho (And.intro hlen (And.intro pa.1 (And.intro pa.2 hk))))
                    clear ho hk hown hgrow hlen pa
                    go_wp2
                    go_roundg (n - (i + 1))
                    case measure => omega
                    case rel => exact ⟨i + 1, _, _, _, rfl, by go_num, by omega, by omega, R⟩
          · obtain ⟨p, hp⟩ : ∃ p, p = q - 1 := ⟨_, rfl⟩
            have hp1 : p + 1 ≤ q := by omega
            have hp2 : q ≤ p + 1 := by omega
            obtain ⟨y, hy⟩ : ∃ y, o[p]? = some y := ⟨_, List.getElem?_eq_getElem (by have := HS.out.2.1; omega)⟩
            have HY := Lib.hid hy
            have HP := Lib.hid hp
            have xp : (q : Int) - 1 = (p : Int) := by omega
            have xpw : IntKind.i64.wrap (p : Int) = (p : Int) := by rw [IntKind.wrap_i64]; omega
            have xpl : (p : Int) < (i : Int) := by omega
            have xp0 : ¬ (p : Int) < 0 := by omega
            have z0 : decide ((0 : Int) < (q : Int)) = true := decide_eq_true (by omega)
            have z0' : decide (0 < q) = true := decide_eq_true (by omega)
            obtain ⟨yy, _⟩ := (HS.out.1.kept HZ.out.1 (by simp)).eight hy
            clear hy hp
            by_cases hv : x.id < y.id
            · have hv1 : decide (x.id < y.id) = true := decide_eq_true hv
              have HV := Lib.hid hv
              clear hv h0
              generalize y.id = yi at yy hv1
              generalize x.id = xi at y0 hv1
              go_wp2_with fail
              go_quiet (fail)
              have HZ2 := Lib.hid (show Kept wo (wr.drewN nq) [] ∧ ∀ j y, p ≤ j → o[j]? = some y → x.id < y.id from ⟨HZ.out.1.drewN nq, fun j z hj hz => by
                by_cases e : j = p
                · subst e
                  rw [HY.out] at hz
                  cases hz
                  exact HV.out
                · exact HZ.out.2 j z (by omega) hz⟩)
              clear y0 yy
              generalize wr.drewN nq = wz at HZ2 ⊢
              go_wp2
              go_roundg p
              case measure => omega
              case rel => exact ⟨p, by go_num, by omega, Nat.le_refl _, HZ2⟩
            · have hv1 : decide (x.id < y.id) = false := decide_eq_false hv
              have HQ := Lib.hid (show ∀ y, 0 < q → o[q - 1]? = some y → y.id ≤ x.id from fun z _ hz => by
                rw [← HP.out, HY.out] at hz
                cases hz
                omega)
              clear hv h0
              generalize y.id = yi at yy hv1
              generalize x.id = xi at y0 hv1
              go_wp2_with fail
              go_quiet (fail)
              have HZ2 := Lib.hid (And.intro (HZ.out.1.drewN nq) HZ.out.2)
              clear y0 yy
              generalize wr.drewN nq = wz at HZ2 ⊢
              have hwz : w.heap.size ≤ wz.heap.size := by have := HZ2.out.1.size; omega
              go_wp2_with (at_builtin; refine wpList_append_src _ rfl (.tmp 33) (.tmp 36) 33 33 rfl w.heap.size 42 i0 _ 8 80 Try.underlying33 I.out.1 I.out.2.1 I.out.2.2.1 I.out.2.2.2 rfl (.slice none 0 0) 0 [] rfl (OwnE.nil _ _ _) _ q (ecs (o.take q)) rfl ?src (by unfold maxLen; omega) (by omega) (by first | assumption | omega | (simp; omega)) ?next)
              case src => have := ((HS.out.1.kept HZ2.out.1 (by simp)).takeR (by have := HS.out.2.1; omega) : RdE wz _ (o.take q)).src (P := Try.prog) Try.underlying33; rw [List.length_take, Nat.min_eq_left (by have := HS.out.2.1; omega)] at this; exact this
              case next =>
                intro v2 w2 hown hgrow hl2; intros
                have NB : v2.ownBlock ≠ some g := by
                  intro hz
                  have hgl := (HS.out.1.lt g rfl).2
                  have hzs := HZ2.out.1.size
                  rcases hl2 with h | ⟨g9, h, hg9⟩
                  · rw [h] at hz; simp [Value.ownBlock] at hz
                  · rw [h] at hz; simp only [Option.some.injEq] at hz; subst hz; omega
                have ho : OwnE w2 w.heap.size 42 v2 (o.take q) := by unfold OwnE; rw [List.length_take, Nat.min_eq_left (by have := HS.out.2.1; omega)]; simpa using hown
                have hk : Kept w w2 [] := (HS.out.2.2.2.2.trans HZ2.out.1 (by simp)).grown hgrow (fun k hk => by simp [Value.ownBlock] at hk)
                have hkr : Kept wo w2 [] := HZ2.out.1.grown hgrow (fun k hk => by simp [Value.ownBlock] at hk)
                obtain ⟨b9, o9, e9, c0, c1, c2, c3, c4, c5, c6, c7⟩ := RX.out w2 hk
                simp only [Option.some.injEq, Addr.mk.injEq] at e9
                obtain ⟨rfl, rfl, _⟩ := e9
                have Ho := Lib.hid ho; have Hk := Lib.hid hk; have Hkr := Lib.hid hkr; have HNB := Lib.hid NB
                have hw2 : w.heap.size ≤ w2.heap.size := hk.size
                clear ho hk hkr hown hgrow hl2 NB
                go_wp2_with (at_builtin; refine wpList_append_src _ rfl (.tmp 38) (.tmp 43) 33 33 rfl w.heap.size 42 i0 _ 8 80 Try.underlying33 I.out.1 I.out.2.1 I.out.2.2.1 I.out.2.2.2 rfl _ q (ecs (o.take q)) rfl ?hown _ 1 x.cs.toList rfl (src_ev w2 x) (by unfold maxLen; omega) (by omega) (by first | assumption | omega | (simp; omega)) ?next)
                case hown => have := World.ownsRow.alloc Ho.out (.cells x.cs 42); rw [List.length_take, Nat.min_eq_left (by have := HS.out.2.1; omega)] at this; exact this
                case next =>
                  intro v3 w3 hown hgrow; intros
                  have ho : OwnE w3 w.heap.size 42 v3 (o.take q ++ [x]) := by unfold OwnE; rw [← ecs_snoc, List.length_append, List.length_take, Nat.min_eq_left (by have := HS.out.2.1; omega)]; exact hown
                  have hg : ∀ k, v2.ownBlock = some k → w.heap.size ≤ k := fun k hk => (Ho.out.lt k hk).1
                  have hk : Kept w w3 [] := (Hk.out.alloc (.cells x.cs 42)).grown hgrow (fun k hk => .inr (hg k hk))
                  have hor : OwnE w3 w.heap.size 42 (.slice (some ⟨g, 0, none⟩) i cp) o := ((HS.out.1.kept (Hkr.out.alloc (.cells x.cs 42)) (by simp))).fo ((Fo.refl (fun k => v2.ownBlock = some k) _).grown hgrow (fun k hk => .inl hk)) (fun k hk => by simp only [Value.ownBlock, Option.some.injEq] at hk; subst hk; exact HNB.out)
                  have Hor := Lib.hid hor
                  have Ho3 := Lib.hid ho; have Hk3 := Lib.hid hk
                  have hw3 : w.heap.size ≤ w3.heap.size := hk.size
                  clear ho hk hown hgrow hg hor c0 c1 c2 c3 c4 c5 c6 c7
                  by_cases hcq : cp = q
                  · have HD0 : o.drop q = [] := List.drop_of_length_le (by have := HG.out.1; have := HG.out.2; omega)
                    have hic : i = q := by have := HG.out.1; have := HG.out.2; omega
                    have HD0 := Lib.hid HD0
                    have hiq := Lib.hid hic
                    subst hcq
                    subst hic
                    go_wp2_with (at_builtin; refine wpList_append_src _ rfl (.tmp 45) (.tmp 48) 33 33 rfl w.heap.size 42 i0 _ 8 80 Try.underlying33 I.out.1 I.out.2.1 I.out.2.2.1 I.out.2.2.2 rfl _ (i + 1) (ecs (o.take i ++ [x])) rfl ?hown _ 0 (ecs (([] : List Ev))) rfl ?src (by unfold maxLen; omega) (by omega) (by first | assumption | omega | (simp; omega)) ?next)
                    case hown => have := Ho3.out; unfold OwnE at this; rw [List.length_append, List.length_take, Nat.min_eq_left (by have := HS.out.2.1; omega)] at this; exact this
                    case src => have := (rdE_no (some ⟨g, 0, none⟩) 0 (by simp) : RdE w3 _ (([] : List Ev))).src (P := Try.prog) Try.underlying33; simpa using this
                    case next =>
                      intro v4 w4 hown hgrow; intros
                      have ho : OwnE w4 w.heap.size 42 v4 (o.take i ++ x :: o.drop i) := by
                        have e1 : o.take i ++ x :: o.drop i = (o.take i ++ [x]) ++ ([] : List Ev) := by rw [HD0.out]; simp
                        rw [e1]; unfold OwnE; rw [ecs_append, List.length_append, List.length_append, List.length_take, Nat.min_eq_left (by have := HS.out.2.1; omega)]; exact hown
                      have hk : Kept w w4 [] := Hk3.out.grown hgrow (fun k hk => .inr (Ho3.out.lt k hk).1)
                      obtain ⟨u9, n9, rfl⟩ := ho.shape
                      have hlen : (o.take i ++ x :: o.drop i).length = i + 1 := by rw [List.length_append, List.length_cons, List.length_take, List.length_drop, HS.out.2.1]; omega
                      rw [hlen] at ho ⊢
                      have pa := put_at HS.out.2.2.1 HS.out.2.2.2.1 HX.out (by have := HS.out.2.1; omega) HZ2.out.2 HQ.out
                      have R := Lib.hid (And.intro ho (And.intro hlen (And.intro pa.1 (And.intro pa.2 hk))))
                      clear ho hk hown hgrow hlen pa
                      go_wp2
                      go_roundg (n - (i + 1))
                      case measure => omega
                      case rel => exact ⟨i + 1, _, _, _, rfl, by go_num, by omega, by omega, R⟩
                  · have x5 : (q : Int) < (cp : Int) := by have := HG.out.1; have := HG.out.2; omega
                    have x6 : (q : Int) ≤ (i : Int) := by omega
                    go_wp2_with (at_builtin; refine wpList_append_src _ rfl (.tmp 45) (.tmp 48) 33 33 rfl w.heap.size 42 i0 _ 8 80 Try.underlying33 I.out.1 I.out.2.1 I.out.2.2.1 I.out.2.2.2 rfl _ (q + 1) (ecs (o.take q ++ [x])) rfl ?hown _ (i - q) (ecs (o.drop q)) rfl ?src (by unfold maxLen; omega) (by omega) (by first | assumption | omega | (simp; omega)) ?next)
                    case hown => have := Ho3.out; unfold OwnE at this; rw [List.length_append, List.length_take, Nat.min_eq_left (by have := HS.out.2.1; omega)] at this; exact this
                    case src => have := (Hor.out.dropR (by have := HS.out.2.1; omega) : RdE w3 _ (o.drop q)).src (P := Try.prog) Try.underlying33; rw [List.length_drop, HS.out.2.1] at this; exact this
                    case next =>
                      intro v4 w4 hown hgrow; intros
                      have ho : OwnE w4 w.heap.size 42 v4 (o.take q ++ x :: o.drop q) := by
                        have e1 : o.take q ++ x :: o.drop q = (o.take q ++ [x]) ++ o.drop q := by simp
                        rw [e1]; unfold OwnE; rw [ecs_append, List.length_append, List.length_append, List.length_take, Nat.min_eq_left (by have := HS.out.2.1; omega), List.length_drop, HS.out.2.1]; exact hown
                      have hk : Kept w w4 [] := Hk3.out.grown hgrow (fun k hk => .inr (Ho3.out.lt k hk).1)
                      obtain ⟨u9, n9, rfl⟩ := ho.shape
                      have hlen : (o.take q ++ x :: o.drop q).length = i + 1 := by rw [List.length_append, List.length_cons, List.length_take, List.length_drop, HS.out.2.1]; omega
                      rw [hlen] at ho ⊢
                      have pa := put_at HS.out.2.2.1 HS.out.2.2.2.1 HX.out (by have := HS.out.2.1; omega) HZ2.out.2 HQ.out
                      have R := Lib.hid (And.intro ho (And.intro hlen (And.intro pa.1 (And.intro pa.2 hk))))
                      clear ho hk hown hgrow hlen pa
                      go_wp2
                      go_roundg (n - (i + 1))
                      case measure => omega
                      case rel => exact ⟨i + 1, _, _, _, rfl, by go_num, by omega, by omega, R⟩
    · have x1 : ¬ (i : Int) < (n : Int) := by omega
      obtain rfl : i = n := by omega
      go_wp2
      go_ret
      obtain ⟨h1, h2, h3, h4, h5⟩ := HS.out
      rw [List.take_of_length_le (by rw [HN.out]; exact Nat.le_refl _)] at h4
      rw [← srt_is tot_byId h3 h4]
      exact ⟨_, rfl, h1, h5⟩

end Go.Proofs.Ytojkandkhhjaaaa
