/-
  Rth, Rti, Rtl, Evl in one text.
-/
import Derived.Test.YticiofkiffgclaaGreatNr16
import Derived.Test.YticiofkiffgclaaGreatNr10
import Derived.Test.YticiofkiffgclaaGreatRows
import Derived.Test.YticiofkiffgclaaGreatNr1
import Derived.Test.YticiofkiffgclaaGreatNr6
import Derived.Deep.Slices
import Derived.Deep.Fields
import Derived.Deep.Grids
import Derived.ChangeSame
import Derived.LoopTactic
import Derived.ProofKit
import Derived.OpenShut
import Derived.ChangeOld
import Derived.Below
import Derived.Laws.StructEq
import Derived.Deep.LoopGhost
import Derived.Test.YticiofkiffgclaaGreatNr5
namespace Go.Proofs.YticiofkiffgclaaGreat
set_option linter.unusedVariables false
open Go.RowKit

variable {w w' : World} {B h : Nat} {V : Value} {l : List It}

theorem Tryz.infoEv : (Tryz.prog.info? 50).map (fun i => (i.zero, i.size, i.bytes)) = some (some (.agg #[.int .i64 0, .int .i64 0, .string ⟨#[]⟩, .int .i64 0, .int .i64 0, .int .u8 0, .int .i64 0, .string ⟨#[]⟩]), 8, 80) := by kernel_rfl

theorem due_here (ok : OkI l) {now : Int} {k : Nat} (hk : k ≤ l.length) (h1 : ∀ (j : Nat) (y : It), j < k → l[j]? = some y → y.a ≤ now) (h2 : ∀ y, l[k]? = some y → ¬ y.a ≤ now) : l.take k = dueI l now := by
  have h3 := due_stop ok.rise h1 h2 hk
  have h4 := (due_take ok.rise now).1
  rw [h3] at h4
  exact h4
def evs (l : List It) : List Ev := l.map It.e
theorem evs_length (l : List It) : (evs l).length = l.length := List.length_map _
theorem evs_snoc {k : Nat} {x : It} (hx : l[k]? = some x) : evs (l.take (k + 1)) = evs (l.take k) ++ [x.e] := by
  obtain ⟨hk, rfl⟩ := List.getElem?_eq_some_iff.1 hx
  rw [evs, List.take_succ_eq_append_getElem hk, List.map_append]
  rfl

set_option maxHeartbeats 4000000 in
set_option maxRecDepth 100000 in
theorem tdue_any (a : Ls encIt rtT rtE w B h V l) (ok : OkI l) (now : Int) : Calls Tryz.prog 158 #[.pointer (some ⟨h, 0, none⟩), .int .i64 now] w fun e w' => ∃ v', e = .returned v' ∧ OwnK encEv w' w.heap.size evT v' (evs (dueI l now)) ∧ Kept w w' [] := by
  obtain ⟨i0, hi0, hz0, hz1, hz2⟩ := info_parts Tryz.infoEv
  obtain ⟨z, hz⟩ : ∃ z, z = w.heap.size := ⟨_, rfl⟩
  obtain ⟨u, c, e⟩ := a.shape
  have c0 := a.cell.1
  rw [e] at c0
  have few := ok.few
  have A := Lib.hid a; have OK := Lib.hid ok; have EV := Lib.hid e; have HZ := Lib.hid hz
  clear a ok e hz
  go_enter Tryz.func158, Tryz.ntmps158
  go_wp2
  go_loopw [5, 7, 15] (fun s5 _ s15 wr => ∃ (k : Nat) (ue : Option Addr) (ce : Nat), s15 = .int .i64 k ∧ s5 = .slice ue k ce ∧ k ≤ l.length ∧ Hid (OwnK encEv wr z evT (.slice ue k ce) (evs (l.take k))) ∧ Hid (∀ (j : Nat) (y : It), j < k → l[j]? = some y → y.a ≤ now) ∧ Hid (Kept w wr [])) (fun _ _ s15 _ => l.length - (intOf s15).toNat)
  case atStart => exact ⟨0, none, 0, rfl, rfl, Nat.zero_le _, Lib.hid (OwnK.nil _ _ _), Lib.hid (fun j y hj => absurd hj (Nat.not_lt_zero _)), Lib.hid (Kept.refl w [])⟩
  case round =>
    obtain ⟨k, ue, ce, rfl, rfl, hk, OW, HX, K⟩ := hrel
    by_cases hlt : k < l.length
    · obtain ⟨x, hx⟩ : ∃ x, l[k]? = some x := ⟨_, List.getElem?_eq_getElem hlt⟩
      have a2 := A.out.keep K.out
      obtain ⟨g, c', hv⟩ := a2.hit hx
      have o2 := a2.own
      rw [hv] at o2
      obtain ⟨⟨q0, q1, q2, q3, q4, q5, q6, q7, q8⟩, -⟩ := cellsO_r o2 hx
      rw [EV.out] at hv
      simp only [Value.slice.injEq] at hv
      obtain ⟨rfl, -, rfl⟩ := hv
      have x1 : (k : Int) < (l.length : Int) := by omega
      have HR := Lib.hid hx
      clear a2 o2 hx
      obtain ⟨b0, ⟨b1, b2, b3, b4, b5, b6, b7, b8⟩⟩ := x
      simp only at q0 q1 q2 q3 q4 q5 q6 q7 q8
      by_cases hd : b0 ≤ now
      · have hd2 : ¬ now < b0 := by omega
        have HD := Lib.hid hd
        have k2 : Kept wr ((wr.alloc (.cells #[.int .i64 b0, .int .i64 b1, .int .i64 b2, .string b3, .int .i64 b4, .int .i64 b5, .int .u8 b6, .int .i64 b7, .string b8] rtE)).alloc (.cells #[.int .i64 b1, .int .i64 b2, .string b3, .int .i64 b4, .int .i64 b5, .int .u8 b6, .int .i64 b7, .string b8] evT)) [] := ((Kept.refl wr []).alloc _).alloc _
        obtain ⟨W1, hW1⟩ : ∃ W1, W1 = wr.alloc (.cells #[.int .i64 b0, .int .i64 b1, .int .i64 b2, .string b3, .int .i64 b4, .int .i64 b5, .int .u8 b6, .int .i64 b7, .string b8] rtE) := ⟨_, rfl⟩
        have hz2' : W1.heap.size = wr.heap.size + 1 := by rw [hW1]; simp
        have SRC := src_kone (E := encEv) (P := Tryz.prog) (t := evT) W1 ⟨b1, b2, b3, b4, b5, b6, b7, b8⟩ (tx := 57) Tryz.underlying57
        rw [hz2', hW1] at SRC
        simp only [encEv, Ev.cs] at SRC
        have SRC := Lib.hid SRC
        have K2 := Lib.hid (K.out.trans k2 (by simp))
        have ET := Lib.hid (show (evs (l.take k)).length = k by rw [evs_length, List.length_take]; omega)
        have OO := OW.out.keep k2
        unfold OwnK at OO
        rw [ET.out] at OO
        have OO := Lib.hid OO
        have HS := Lib.hid (show z ≤ ((wr.alloc (.cells #[.int .i64 b0, .int .i64 b1, .int .i64 b2, .string b3, .int .i64 b4, .int .i64 b5, .int .u8 b6, .int .i64 b7, .string b8] rtE)).alloc (.cells #[.int .i64 b1, .int .i64 b2, .string b3, .int .i64 b4, .int .i64 b5, .int .u8 b6, .int .i64 b7, .string b8] evT)).heap.size by have := K2.out.size; rw [HZ.out]; exact this)
        clear k2 hW1 hz2' hd
        go_wp2_with (at_builtin; refine wpList_append_all _ rfl (.tmp 23) (.tmp 26) 57 57 rfl z evT i0 _ 8 80 Tryz.underlying57 hi0 hz0 hz1 hz2 rfl (.slice ue k ce) k (kcs encEv (evs (l.take k))) rfl OO.out (.slice (some ⟨wr.heap.size + 1, 0, none⟩) 1 1) 1 _ rfl SRC.out (by unfold maxLen; omega) (by omega) HS.out ?nexta)
        case nexta =>
          intro v4 w4 hown _ hgrow _
          have o4 : OwnK encEv w4 z evT v4 (evs (l.take (k + 1))) := by
            rw [evs_snoc HR.out]
            unfold OwnK
            rw [kcs_append, kcs_single, List.length_append, ET.out]
            exact hown
          have k4 : Kept w w4 [] := K2.out.grown hgrow (fun k hk => .inr (by have := (World.ownsRow.lt OO.out k hk).1; rw [HZ.out] at this; exact this))
          obtain ⟨u4, c4, e4⟩ := o4.shape
          have hl4 : (evs (l.take (k + 1))).length = k + 1 := by rw [evs_length, List.length_take]; omega
          rw [hl4] at e4
          subst e4
          have O4 := Lib.hid o4; have K4 := Lib.hid k4
          clear hown hgrow o4 k4 hl4
          go_wp2
          go_roundw
          case rel =>
            refine ⟨k + 1, u4, c4, by go_num, rfl, by omega, O4, Lib.hid (fun j y hj hy => ?_), K4⟩
            by_cases ej : j = k
            · subst ej
              rw [HR.out] at hy
              cases hy
              exact HD.out
            · exact HX.out j y (by omega) hy
          case measure => simp [intOf]; omega
      · have hd2 : now < b0 := by omega
        have R := Lib.hid (due_here OK.out hk HX.out (fun y hy => by rw [HR.out] at hy; cases hy; exact hd))
        clear hd
        go_wp2
        go_ret
        rw [← R.out, ← HZ.out]
        exact ⟨_, rfl, OW.out.keep ((Kept.refl wr []).alloc _), K.out.alloc _⟩
    · have x1 : ¬ (k : Int) < (l.length : Int) := by omega
      have R := Lib.hid (due_here OK.out hk HX.out (fun y hy => by have := (List.getElem?_eq_some_iff.1 hy).1; omega))
      go_wp2
      go_ret
      rw [← R.out, ← HZ.out]
      exact ⟨_, rfl, OW.out, K.out⟩

set_option maxHeartbeats 4000000 in
set_option maxRecDepth 100000 in
theorem ttake_any (a : Ls encIt rtT rtE w B h V l) (ok : OkI l) (now : Int) : Calls Tryz.prog 102 #[.pointer (some ⟨h, 0, none⟩), .int .i64 now] w fun e w' => ∃ v', e = .returned v' ∧ OwnK encEv w' w.heap.size evT v' (evs (dueI l now)) ∧ ∃ V', Ls encIt rtT rtE w' B h V' (lftI l now) ∧ Stp (lfoot h V) (lfoot h V') w w' := by
  have DU := Lib.hid (tdue_any a ok now)
  have few := ok.few
  have DT := Lib.hid (due_take ok.rise now)
  have DL := Lib.hid (show (dueI l now).length ≤ l.length from List.length_filter_le _ _)
  obtain ⟨n, hn⟩ : ∃ n, n = (dueI l now).length := ⟨_, rfl⟩
  rw [← hn] at DT DL
  have A := Lib.hid a; have HN := Lib.hid hn
  clear a ok hn
  go_enter Tryz.func102, Tryz.ntmps102
  go_wp2_with fail
  refine DU.out.mono ?_
  rintro e w2 ⟨v, rfl, o, k⟩
  have a2 := A.out.keep k
  obtain ⟨uv, cv, ev⟩ := o.shape
  rw [evs_length, ← HN.out] at ev
  subst ev
  by_cases h0 : n = 0
  · subst h0
    have e1 : lftI l now = l := by rw [← DT.out.2]; rfl
    rw [← e1] at a2
    have A2 := Lib.hid a2; have OV := Lib.hid o; have K := Lib.hid k
    clear a2 o k e1
    go_wp2
    go_ret
    exact ⟨_, rfl, OV.out, V, A2.out, Stp.ofK K.out⟩
  · have hnl : n ≤ l.length := DL.out
    obtain ⟨x, hx⟩ : ∃ x, l[0]? = some x := ⟨_, List.getElem?_eq_getElem (by omega)⟩
    obtain ⟨g, c, hv⟩ := a2.hit hx
    have o2 := a2.own
    have v2 := a2.cell.1
    rw [hv] at o2 v2
    have DE := Lib.hid (rdeletes_any g l.length c l 0 n w2 B rfl o2 (by omega) hnl (by omega))
    have EV := Lib.hid hv; have A2 := Lib.hid a2; have OV := Lib.hid o; have K := Lib.hid k
    have hn1 : (0 : Int) < (n : Int) := by omega
    have hvz := fun k1 (hk1 : (Value.slice uv n cv).ownBlock = some k1) (hk2 : V.ownBlock = some k1) => (show False by have := (o.lt _ hk1).1; have := (A.out.lt _ (.inr hk2)).2; omega)
    have hvh := fun (hk1 : (Value.slice uv n cv).ownBlock = some h) => (show False by have := (o.lt _ hk1).1; have := (A.out.lt _ (.inl rfl)).2; omega)
    have HVZ := Lib.hid hvz; have HVH := Lib.hid hvh
    clear hx o2 a2 o k hv hnl h0 hvz hvh
    go_wp2_with fail
    refine DE.out.mono ?_
    rintro e w4 ⟨rfl, ho, hfo⟩
    rw [List.take_zero, List.nil_append, DT.out.2, Nat.zero_add] at ho
    rw [Nat.zero_add]
    obtain ⟨⟨c4, f4⟩, a5, s5⟩ := A2.out.lay (hfo.mono (fun k hk => by rw [EV.out, hk]; rfl)) ho (fun k hk => .inl (by rw [EV.out]; exact hk))
    rw [EV.out] at c4
    have o4 := OV.out.fo hfo (fun k1 hk1 hk2 => HVZ.out k1 hk1 (by rw [EV.out, hk2]; rfl))
    have o5 := o4.fo (Fo.setCell (O := fun k => k = h) (Fo.refl _ w4) (p := ⟨h, 0, none⟩) (.inl rfl) (.slice (some ⟨g, 0, none⟩) (l.length - n) c)) (fun k1 hk1 hk2 => HVH.out (by rw [← hk2]; exact hk1))
    have A5 := Lib.hid a5; have S5 := Lib.hid s5; have O5 := Lib.hid o5
    clear ho hfo a5 s5 v2 o4 o5
    go_wp2
    go_ret
    exact ⟨_, rfl, O5.out, _, A5.out, S5.out.afterK K.out⟩

end Go.Proofs.YticiofkiffgclaaGreat

namespace Go.Proofs.YticiofkiffgclaaGreat
set_option linter.unusedVariables false
open Go.RowKit

variable {w0 w w' : World} {h : Nat} {l : List It}

def x7 : It := ⟨5, ⟨7, 0, nA, 1, 0, 0, 0, ⟨#[]⟩⟩⟩
end Go.Proofs.YticiofkiffgclaaGreat

namespace Go.Proofs.YticiofkiffgclaaGreat
set_option linter.unusedVariables false
open Go.RowKit

theorem putAll_at {w : World} {g : Nat} {cs : Array Value} {T : TypeId} {fz : Nat × Nat} (h : w.heap[g]? = some (.cells cs T fz)) {us : List Value} (hl : us.length = cs.size) : (putAll w g 0 us).heap[g]? = some (.cells us.toArray T fz) := by
  obtain ⟨cs', h1, h2, h3⟩ := heap_putAll us w 0 cs h (by omega)
  rw [h1]
  have e : cs' = us.toArray := by
    apply Array.ext'
    rw [h3, List.take_zero, List.nil_append, Nat.zero_add, List.drop_eq_nil_of_le (by rw [Array.length_toList]; omega), List.append_nil]
  rw [e]
theorem putAll_keep {a w : World} (h : Kept a w []) {g : Nat} (hg : a.heap.size ≤ g) (us : List Value) : Kept a (putAll w g 0 us) [] := putAll_kept us w 0 h (.inr hg)
theorem adiL_all {P : It → Prop} {l : List It} {e : Ev} {ow : ByteArray} {at' : Int} (h : ∀ x ∈ l, P x) (hx : P (addX e ow at')) : ∀ x ∈ adiL l e ow at', P x := by
  intro x hm
  unfold adiL at hm
  split at hm
  · rcases (insG_mem _ _ _).1 hm with rfl | hm
    · exact hx
    · exact h x hm
  · exact h x hm

end Go.Proofs.YticiofkiffgclaaGreat

namespace Go.Proofs.YticiofkiffgclaaGreat
open Go.RowKit

theorem Ev.cs_size (e : Ev) : e.cs.size = 8 := rfl

def ecs : List Ev → List Value
  | [] => []
  | e :: t => e.cs.toList ++ ecs t

theorem ecs_length (l : List Ev) : (ecs l).length = l.length * 8 := by
  induction l with
  | nil => rfl
  | cons e t ih =>
    rw [ecs, List.length_append, ih, List.length_cons, Array.length_toList, Ev.cs_size]
    omega

theorem ecs_append (l m : List Ev) : ecs (l ++ m) = ecs l ++ ecs m := by
  induction l with
  | nil => rfl
  | cons e t ih => rw [List.cons_append, ecs, ecs, ih, List.append_assoc]

theorem ecs_one (l : List Ev) : ∀ u ∈ ecs l, u.oneCell' = true := by
  induction l with
  | nil => intro u hu; simp [ecs] at hu
  | cons e t ih =>
    intro u hu
    rcases List.mem_append.1 hu with h | h
    · simp only [Ev.cs, List.mem_cons, List.not_mem_nil, or_false] at h
      rcases h with rfl | rfl | rfl | rfl | rfl | rfl | rfl | rfl <;> rfl
    · exact ih u h

theorem ecs_get (l : List Ev) : ∀ (i j : Nat) (h : i < l.length), j < 8 → (ecs l)[i * 8 + j]? = (l[i]).cs[j]? := by
  induction l with
  | nil => intro i j h; simp at h
  | cons e t ih =>
    intro i j h hj
    rw [ecs]
    cases i with
    | zero =>
      rw [Nat.zero_mul, Nat.zero_add, List.getElem?_append_left (by rw [Array.length_toList, Ev.cs_size]; exact hj), Array.getElem?_toList]
      rfl
    | succ i =>
      rw [List.getElem?_append_right (by rw [Array.length_toList, Ev.cs_size]; omega), Array.length_toList, Ev.cs_size, show (i + 1) * 8 + j - 8 = i * 8 + j by omega]
      exact ih i j (by simpa using h) hj

def RdE (w : World) (v : Value) (l : List Ev) : Prop :=
  ∃ a c, v = .slice a l.length c ∧ l.length ≤ c ∧ (a = none → c = 0) ∧
    (l ≠ [] → ∃ b o, a = some ⟨b, o, none⟩ ∧ ∀ k, k < l.length * 8 → w.cell? ⟨b, o + k, none⟩ = (ecs l)[k]?)

theorem RdE.nil (w : World) : RdE w (.slice none 0 0) [] := ⟨none, 0, rfl, Nat.le_refl _, fun _ => rfl, fun h => absurd rfl h⟩

theorem ecs_some (l : List Ev) (k : Nat) (h : k < l.length * 8) : ∃ u, (ecs l)[k]? = some u := ⟨_, List.getElem?_eq_getElem (by rw [ecs_length]; exact h)⟩

theorem RdE.kept {w w' : World} {v : Value} {l : List Ev} {bs : List Nat} (h : RdE w v l) (hk : Kept w w' bs) (hb : ∀ b, v.ownBlock = some b → b ∉ bs) : RdE w' v l := by
  obtain ⟨a, c, rfl, hc, ha, hl⟩ := h
  refine ⟨a, c, rfl, hc, ha, fun hne => ?_⟩
  obtain ⟨b, o, rfl, hcell⟩ := hl hne
  refine ⟨b, o, rfl, fun k hk' => ?_⟩
  obtain ⟨u, hu⟩ := ecs_some l k hk'
  have h1 := hcell k hk'
  rw [hu] at h1 ⊢
  exact hk.cell (p := ⟨b, o + k, none⟩) (hb b rfl) h1

theorem RdE.shape3 {w : World} {v : Value} {l : List Ev} (h : RdE w v l) : ∃ a c, v = .slice a l.length c := by
  obtain ⟨a, c, h, _⟩ := h
  exact ⟨a, c, h⟩

theorem RdE.at {w : World} {a : Option Addr} {n c : Nat} {l : List Ev} (h : RdE w (.slice a n c) l) (i : Nat) (hi : i < l.length) : ∃ b o, a = some ⟨b, o, none⟩ ∧ ∀ j, j < 8 → w.cell? ⟨b, o + i * 8 + j, none⟩ = (l[i]).cs[j]? := by
  obtain ⟨a', c', hv, _, _, hl⟩ := h
  simp only [Value.slice.injEq] at hv
  obtain ⟨rfl, _, _⟩ := hv
  obtain ⟨b, o, rfl, hcell⟩ := hl (by rintro rfl; simp at hi)
  refine ⟨b, o, rfl, fun j hj => ?_⟩
  rw [← ecs_get l i j hi hj, Nat.add_assoc]
  exact hcell _ (by omega)

theorem RdE.src {P : Program} {w : World} {v : Value} {l : List Ev} (h : RdE w v l) {tx e' : TypeId} (hk : P.underlying tx = some (.slice e')) : Src P 8 tx v l.length (ecs l) w := by
  obtain ⟨a, c, rfl, hc, ha, hl⟩ := h
  by_cases hne : l = []
  · subst hne
    cases a with
    | none => obtain rfl := ha rfl; exact Src.ofNil w hk 0
    | some x => exact Src.ofSlice w hk x 0 c [] rfl (by simp) (by simp)
  · obtain ⟨b, o, rfl, hcell⟩ := hl hne
    refine Src.ofSlice w hk ⟨b, o, none⟩ l.length c (ecs l) (ecs_length l) (fun j u hu => ?_) (ecs_one l)
    have hj := (List.getElem?_eq_some_iff.1 hu).1
    rw [ecs_length] at hj
    rw [Addr.add_lit, hcell j hj]
    exact hu

def OwnE (w : World) (base : Nat) (e : TypeId) (v : Value) (l : List Ev) : Prop := w.ownsRow base e 8 v l.length (ecs l)

theorem OwnE.nil (w : World) (base : Nat) (e : TypeId) : OwnE w base e (.slice none 0 0) [] := World.ownsRow_nil w base e 8

theorem OwnE.rd {w : World} {base : Nat} {e : TypeId} {v : Value} {l : List Ev} (h : OwnE w base e v l) : RdE w v l := by
  rcases h.2 with ⟨rfl, hn⟩ | ⟨g, cap, cur, rfl, hb, hg, hnc, hcm, hcs, ht⟩
  · have : l = [] := List.eq_nil_of_length_eq_zero hn
    subst this
    exact RdE.nil w
  · refine ⟨some ⟨g, 0, none⟩, cap, rfl, hnc, by simp, fun _ => ⟨g, 0, rfl, fun k hk => ?_⟩⟩
    obtain ⟨u, hu⟩ := ecs_some l k hk
    have := World.ownsRow.cells h (g := g) rfl k u hu
    rw [hu]
    simpa [Addr.add_lit] using this

theorem OwnE.kept {w w' : World} {base : Nat} {e : TypeId} {v : Value} {l : List Ev} {bs : List Nat} (h : OwnE w base e v l) (hk : Kept w w' bs) (hb : ∀ b, v.ownBlock = some b → b ∉ bs) : OwnE w' base e v l := by
  refine ⟨h.1, ?_⟩
  rcases h.2 with h2 | ⟨g, cap, cur, rfl, hbg, hg, rest⟩
  · exact .inl h2
  · exact .inr ⟨g, cap, cur, rfl, hbg, hk.heap (hb g rfl) hg, rest⟩

theorem OwnE.mono {w : World} {base base' : Nat} {e : TypeId} {v : Value} {l : List Ev} (h : OwnE w base e v l) (hb : base' ≤ base) : OwnE w base' e v l := by
  refine ⟨h.1, ?_⟩
  rcases h.2 with h2 | ⟨g, cap, cur, rfl, hbg, r⟩
  · exact .inl h2
  · exact .inr ⟨g, cap, cur, rfl, by omega, r⟩

theorem OwnE.lt {w : World} {base : Nat} {e : TypeId} {v : Value} {l : List Ev} (h : OwnE w base e v l) : ∀ b, v.ownBlock = some b → base ≤ b ∧ b < w.heap.size := World.ownsRow.lt h

theorem OwnE.shape {w : World} {base : Nat} {e : TypeId} {v : Value} {l : List Ev} (h : OwnE w base e v l) : ∃ a c, v = .slice a l.length c := by
  rcases h.2 with ⟨rfl, hn⟩ | ⟨g, cap, cur, rfl, _⟩
  · exact ⟨none, 0, by rw [hn]⟩
  · exact ⟨_, _, rfl⟩

end Go.Proofs.YticiofkiffgclaaGreat
