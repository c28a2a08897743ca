/-
  Cuf, Cug, Rtf, Rth, Rti, Rtl, Evl in one text.
-/
import Derived.Test.YticiofkiffgclaaGreatQo6
import Derived.Test.YticiofkiffgclaaGreatQo3
import Derived.Test.YticiofkiffgclaaGreatQo2
import Derived.Test.YticiofkiffgclaaGreatRows
import Derived.LoopTactic
import Derived.Deep.QuietTactic
import Derived.BigQuiet
import Derived.RegionTactic
import Derived.Deep.RegionLaw
import Derived.Lib.SliceRun
import Derived.Shelf.Abstract
import Derived.Deep.DeepCutAuto
import Derived.Deep.RegionHeld3
import Derived.Test.YticiofkiffgclaaGreatQo1
import Derived.Deep.Slices
import Derived.Deep.Fields
import Derived.Deep.Grids
import Derived.ChangeSame
import Derived.ProofKit
import Derived.OpenShut
import Derived.ChangeOld
import Derived.Below
import Derived.Laws.StructEq
import Derived.Deep.LoopGhost
namespace Go.Proofs.YticiofkiffgclaaGreat
set_option linter.unusedVariables false
open Go.RowKit

variable {w w' : World} {B h : Nat} {V : Value} {l : List Cu}

set_option maxHeartbeats 2000000 in
set_option maxRecDepth 100000 in
theorem cfin_any (a : Cc cuT cuE w B h V l) (ok : OkC l) (n : ByteArray) : Calls Tryz.prog 97 #[.pointer (some ⟨h, 0, none⟩), .string n] w (ChgPost w B h V cuT cuE (.tuple #[.int .i64 (finN l n), .int .i64 (finE l n)]) (finL l n)) := by
  have FD := Lib.hid (cfind_any a ok n)
  have A := Lib.hid a; have OK := Lib.hid ok
  cases hp : plc l n with
  | none =>
    have e0 : finN l n = 0 := by rw [finN, getC_none hp]
    have e1 : finE l n = 4 := by rw [finE, getC_none hp]
    have e2 : finL l n = l := by rw [finL, hp]
    rw [e0, e1, e2]
    rw [hp] at FD
    simp only [Option.isSome_none] at FD
    clear a ok hp e0 e1 e2
    go_enter Tryz.func97, Tryz.ntmps97
    go_wp2_with (go_at_call 134; refine FD.out.mono ?_; rintro e w2 ⟨rfl, k2⟩)
    go_ret2
    exact ⟨rfl, V, A.out.keep k2, Stp.ofK k2⟩
  | some i =>
    obtain ⟨x, hx, hxn⟩ := plc_some hp
    have hg := getC_plc hp hx
    have few := ok.few
    have hil : i < l.length := (List.getElem?_eq_some_iff.1 hx).1
    have x2 : (i : Int) < (l.length : Int) := by omega
    rw [hp, plc_ahd ok.nms hp] at FD
    simp only [Option.isSome_some] at FD
    have HX := Lib.hid hx; have HXN := Lib.hid hxn
    have hN : finN l n = x.op := by rw [finN, hg]
    have hE : finE l n = if x.op = 0 then 7 else 0 := by rw [finE, hg]
    have hL : finL l n = if x.op = 0 then l else l.set i ⟨n, x.op, 0⟩ := by rw [finL, hp, hg]
    rw [hN, hE, hL]
    clear hp hg hN hE hL hx hxn a ok
    by_cases h1 : x.op = 0
    · rw [if_pos h1, if_pos h1]
      have H1 := Lib.hid h1
      rw [h1]
      clear h1
      go_enter Tryz.func97, Tryz.ntmps97
      go_wp2_with (go_at_call 134; refine FD.out.mono ?_; rintro e w2 ⟨rfl, k2⟩; obtain ⟨g, c, hv, c0, ⟨d0, d1, d2⟩, -⟩ := (A.out.keep k2).hit HX.out; rw [H1.out] at d2; clear hv)
      go_ret2
      exact ⟨rfl, V, A.out.keep k2, Stp.ofK k2⟩
    · rw [if_neg h1, if_neg h1]
      have b1 : (x.op == 0) = false := by rw [beq_eq_false_iff_ne]; exact h1
      obtain ⟨y, hy⟩ : ∃ y, y = x.op := ⟨_, rfl⟩
      have HY := Lib.hid hy
      rw [← hy] at b1 ⊢
      clear h1 hy
      go_enter Tryz.func97, Tryz.ntmps97
      go_wp2_with fail
      refine FD.out.mono ?_
      rintro e w2 ⟨rfl, k2⟩
      have a2 := A.out.keep k2
      obtain ⟨g, c, hv, c0, ⟨d0, d1, d2⟩, ⟨f0, f1, f2⟩⟩ := a2.hit HX.out
      have o2 := a2.own
      rw [hv] at o2
      have o3 := o2.put i hil ⟨n, y, 0⟩
      rw [← hv] at o3
      obtain ⟨a3, s3⟩ := a2.turn (putAll_fo (g := g) (encCu.cs ⟨n, y, 0⟩).toList w2 (i * encCu.k) (Fo.refl _ w2) (.inl (by rw [hv]; rfl))) o3
      have A3 := Lib.hid a3; have S3 := Lib.hid (s3.afterK k2)
      rw [← HY.out] at d2
      clear a2 o2 o3 a3 s3 hv k2
      go_wp2
      go_ret2
      exact ⟨rfl, V, A3.out, S3.out⟩

set_option maxHeartbeats 2000000 in
set_option maxRecDepth 100000 in
theorem clea_any (a : Cc cuT cuE w B h V l) (hl : l.length ≤ 1000) : Calls Tryz.prog 90 #[.pointer (some ⟨h, 0, none⟩)] w fun e w' => e = .returned (.tuple #[.int .i64 (leaN l), .bool (decide (0 < l.length))]) ∧ Kept w w' [] := by
  have A := Lib.hid a
  cases l with
  | nil =>
    obtain ⟨u, c, e⟩ := a.shape
    have c0 := a.cell.1
    rw [e] at c0
    clear a e
    simp only [List.length_nil] at *
    go_enter Tryz.func90, Tryz.ntmps90
    go_wp2
    go_ret2
    exact ⟨rfl, Kept.refl w []⟩
  | cons x0 t =>
    obtain ⟨l, hl0⟩ : ∃ l, l = x0 :: t := ⟨_, rfl⟩
    rw [← hl0] at A hl ⊢
    have hx0 : l[0]? = some x0 := by rw [hl0]; rfl
    have hpos : 0 < l.length := by rw [hl0]; simp
    have hlea : leaN (l.take 1) = x0.la := by rw [hl0]; rfl
    obtain ⟨g, c, hv, c0, ⟨d0, d1, d2⟩, -⟩ := A.out.hit hx0
    rw [Nat.zero_mul] at d0
    rw [Nat.zero_mul, Nat.zero_add] at d1 d2
    have HV := Lib.hid hv; have HL0 := Lib.hid hlea; have HX0 := Lib.hid hx0
    have hdec : decide (0 < l.length) = true := by simpa using hpos
    rw [hdec]
    have hne : ((l.length : Int) == 0) = false := by rw [beq_eq_false_iff_ne]; omega
    have hpi : (0 : Int) < (l.length : Int) := by omega
    have HP := Lib.hid hpos
    obtain ⟨m0, hm0⟩ : ∃ m0, m0 = x0.la := ⟨_, rfl⟩
    have HM0 := Lib.hid hm0
    rw [← hm0] at d1
    clear a hl0 hx0 hlea hv hdec hm0 hpos
    go_enter Tryz.func90, Tryz.ntmps90
    go_wp2
    go_loopw [4, 6, 29] (fun s4 _ s29 wr => ∃ (k : Nat) (m : Int), s29 = .int .i64 k ∧ s4 = .int .i64 m ∧ k ≤ l.length ∧ (k = 0 → m = m0) ∧ (0 < k → m = leaN (l.take k)) ∧ Kept w wr []) (fun _ _ s29 _ => l.length - (intOf s29).toNat)
    case atStart => exact ⟨0, m0, rfl, rfl, Nat.zero_le _, fun _ => rfl, fun h => absurd h (Nat.lt_irrefl _), Kept.refl w []⟩
    case round =>
      obtain ⟨k, m, rfl, rfl, hk, hm1, hm2, hkw⟩ := hrel
      have M1 := Lib.hid hm1; have M2 := Lib.hid hm2; have K := Lib.hid hkw
      clear hm1 hm2 hkw
      by_cases hlt : k < l.length
      · obtain ⟨x, hx⟩ : ∃ x, l[k]? = some x := ⟨_, List.getElem?_eq_getElem hlt⟩
        obtain ⟨g', c', hv', c0', ⟨q0, q1, q2⟩, -⟩ := (A.out.keep K.out).hit hx
        rw [HV.out] at hv'
        simp only [Value.slice.injEq, Option.some.injEq, Addr.mk.injEq] at hv'
        obtain ⟨⟨rfl, _⟩, _, rfl⟩ := hv'
        have x1 : (k : Int) < (l.length : Int) := by omega
        have ST := Lib.hid (leaN_step hx)
        have HX := Lib.hid hx
        obtain ⟨b0, b1, b2⟩ := x
        simp only at q0 q1 q2
        clear hx
        go_wp2
        go_roundw
        case rel =>
          refine ⟨k + 1, min m b1, by go_num, rfl, by omega, fun h => by omega, fun _ => ?_, K.out.alloc _⟩
          rw [ST.out]
          by_cases h0 : k = 0
          · rw [if_pos (.inl h0)]
            have e1 := M1.out h0
            have e2 := HX.out
            rw [h0, HX0.out] at e2
            have e3 := HM0.out
            simp only [Option.some.injEq] at e2
            rw [e2] at e3
            show min m b1 = b1
            rw [e1, e3]
            exact Int.min_self _
          · rw [M2.out (by omega)]
            show min (leaN (l.take k)) b1 = _
            split
            · rename_i h1
              have h2 : b1 < leaN (l.take k) := by rcases h1 with h1 | h1; exact absurd h1 h0; exact h1
              show _ = b1
              omega
            · rename_i h1
              have h2 : ¬ b1 < leaN (l.take k) := fun h2 => h1 (.inr h2)
              omega
        case measure => simp [intOf]; omega
      · have x1 : ¬ (k : Int) < (l.length : Int) := by omega
        have e1 : m = leaN l := by
          have := M2.out (by have := HP.out; omega)
          rw [List.take_of_length_le (by omega)] at this
          exact this
        have E1 := Lib.hid e1
        clear e1
        go_wp2
        go_ret2
        rw [← E1.out]
        exact ⟨rfl, K.out⟩

end Go.Proofs.YticiofkiffgclaaGreat

namespace Go.Proofs.YticiofkiffgclaaGreat
set_option linter.unusedVariables false
open Go.RowKit

variable {w0 w w' : World} {h : Nat} {l : List Cu}

def nA : ByteArray := ⟨#[97]⟩
end Go.Proofs.YticiofkiffgclaaGreat

namespace Go.Proofs.YticiofkiffgclaaGreat
set_option linter.unusedVariables false
open Go.RowKit

abbrev rtT : TypeId := 175
abbrev rtE : TypeId := 173
abbrev evT : TypeId := 50

variable {w w' : World} {B h : Nat} {V : Value} {l : List It}

set_option maxHeartbeats 1000000 in
theorem tnew_any (w : World) : Calls Tryz.prog 77 #[] w fun e w' => e = .returned (.pointer (some ⟨w.heap.size, 0, none⟩)) ∧ Ls encIt rtT rtE w' w.heap.size w.heap.size (.slice none 0 0) [] ∧ Kept w w' [] := by
  go_enter Tryz.func77, Tryz.ntmps77
  go_wp2
  go_ret
  exact ⟨rfl, ⟨heap_alloc_new w _, Nat.le_refl _, by decide, OwnK.nil _ _ _⟩, (Kept.refl w []).alloc _⟩

end Go.Proofs.YticiofkiffgclaaGreat

namespace Go.Proofs.YticiofkiffgclaaGreat
set_option linter.unusedVariables false
open Go.RowKit

variable {w w' : World} {B h : Nat} {V : Value} {l : List It}

def evs (l : List It) : List Ev := l.map It.e
end Go.Proofs.YticiofkiffgclaaGreat

namespace Go.Proofs.YticiofkiffgclaaGreat
set_option linter.unusedVariables false
open Go.RowKit

variable {w0 w w' : World} {h : Nat} {l : List It}

def x7 : It := ⟨5, ⟨7, 0, nA, 1, 0, 0, 0, ⟨#[]⟩⟩⟩
end Go.Proofs.YticiofkiffgclaaGreat

namespace Go.Proofs.YticiofkiffgclaaGreat
set_option linter.unusedVariables false
open Go.RowKit

theorem putAll_at {w : World} {g : Nat} {cs : Array Value} {T : TypeId} {fz : Nat × Nat} (h : w.heap[g]? = some (.cells cs T fz)) {us : List Value} (hl : us.length = cs.size) : (putAll w g 0 us).heap[g]? = some (.cells us.toArray T fz) := by
  obtain ⟨cs', h1, h2, h3⟩ := heap_putAll us w 0 cs h (by omega)
  rw [h1]
  have e : cs' = us.toArray := by
    apply Array.ext'
    rw [h3, List.take_zero, List.nil_append, Nat.zero_add, List.drop_eq_nil_of_le (by rw [Array.length_toList]; omega), List.append_nil]
  rw [e]
theorem putAll_keep {a w : World} (h : Kept a w []) {g : Nat} (hg : a.heap.size ≤ g) (us : List Value) : Kept a (putAll w g 0 us) [] := putAll_kept us w 0 h (.inr hg)
end Go.Proofs.YticiofkiffgclaaGreat

namespace Go.Proofs.YticiofkiffgclaaGreat
open Go.RowKit

theorem Ev.cs_size (e : Ev) : e.cs.size = 8 := rfl

def ecs : List Ev → List Value
  | [] => []
  | e :: t => e.cs.toList ++ ecs t

theorem ecs_length (l : List Ev) : (ecs l).length = l.length * 8 := by
  induction l with
  | nil => rfl
  | cons e t ih =>
    rw [ecs, List.length_append, ih, List.length_cons, Array.length_toList, Ev.cs_size]
    omega

theorem ecs_append (l m : List Ev) : ecs (l ++ m) = ecs l ++ ecs m := by
  induction l with
  | nil => rfl
  | cons e t ih => rw [List.cons_append, ecs, ecs, ih, List.append_assoc]

theorem ecs_one (l : List Ev) : ∀ u ∈ ecs l, u.oneCell' = true := by
  induction l with
  | nil => intro u hu; simp [ecs] at hu
  | cons e t ih =>
    intro u hu
    rcases List.mem_append.1 hu with h | h
    · simp only [Ev.cs, List.mem_cons, List.not_mem_nil, or_false] at h
      rcases h with rfl | rfl | rfl | rfl | rfl | rfl | rfl | rfl <;> rfl
    · exact ih u h

theorem ecs_get (l : List Ev) : ∀ (i j : Nat) (h : i < l.length), j < 8 → (ecs l)[i * 8 + j]? = (l[i]).cs[j]? := by
  induction l with
  | nil => intro i j h; simp at h
  | cons e t ih =>
    intro i j h hj
    rw [ecs]
    cases i with
    | zero =>
      rw [Nat.zero_mul, Nat.zero_add, List.getElem?_append_left (by rw [Array.length_toList, Ev.cs_size]; exact hj), Array.getElem?_toList]
      rfl
    | succ i =>
      rw [List.getElem?_append_right (by rw [Array.length_toList, Ev.cs_size]; omega), Array.length_toList, Ev.cs_size, show (i + 1) * 8 + j - 8 = i * 8 + j by omega]
      exact ih i j (by simpa using h) hj

theorem ecs_set (l : List Ev) : ∀ (i : Nat) (e : Ev), i < l.length → ecs (l.set i e) = (ecs l).take (i * 8) ++ e.cs.toList ++ (ecs l).drop (i * 8 + 8) := by
  induction l with
  | nil => intro i e h; simp at h
  | cons a t ih =>
    intro i e h
    have ha : a.cs.toList.length = 8 := rfl
    cases i with
    | zero =>
      rw [List.set_cons_zero, ecs, ecs, Nat.zero_mul, Nat.zero_add, List.take_zero, List.nil_append, List.drop_append_of_le_length (by omega), List.drop_of_length_le (by omega), List.nil_append]
    | succ i =>
      rw [List.set_cons_succ, ecs, ecs, ih i e (by simpa using h), show (i + 1) * 8 = 8 + i * 8 by omega, List.take_append, ha, List.take_of_length_le (l := a.cs.toList) (by omega), show 8 + i * 8 - 8 = i * 8 by omega, show 8 + i * 8 + 8 = 8 + (i * 8 + 8) by omega, List.drop_append, ha, List.drop_of_length_le (l := a.cs.toList) (by omega), List.nil_append, show 8 + (i * 8 + 8) - 8 = i * 8 + 8 by omega]
      simp

def RdE (w : World) (v : Value) (l : List Ev) : Prop :=
  ∃ a c, v = .slice a l.length c ∧ l.length ≤ c ∧ (a = none → c = 0) ∧
    (l ≠ [] → ∃ b o, a = some ⟨b, o, none⟩ ∧ ∀ k, k < l.length * 8 → w.cell? ⟨b, o + k, none⟩ = (ecs l)[k]?)

theorem RdE.nil (w : World) : RdE w (.slice none 0 0) [] := ⟨none, 0, rfl, Nat.le_refl _, fun _ => rfl, fun h => absurd rfl h⟩

theorem ecs_some (l : List Ev) (k : Nat) (h : k < l.length * 8) : ∃ u, (ecs l)[k]? = some u := ⟨_, List.getElem?_eq_getElem (by rw [ecs_length]; exact h)⟩

theorem RdE.kept {w w' : World} {v : Value} {l : List Ev} {bs : List Nat} (h : RdE w v l) (hk : Kept w w' bs) (hb : ∀ b, v.ownBlock = some b → b ∉ bs) : RdE w' v l := by
  obtain ⟨a, c, rfl, hc, ha, hl⟩ := h
  refine ⟨a, c, rfl, hc, ha, fun hne => ?_⟩
  obtain ⟨b, o, rfl, hcell⟩ := hl hne
  refine ⟨b, o, rfl, fun k hk' => ?_⟩
  obtain ⟨u, hu⟩ := ecs_some l k hk'
  have h1 := hcell k hk'
  rw [hu] at h1 ⊢
  exact hk.cell (p := ⟨b, o + k, none⟩) (hb b rfl) h1

theorem RdE.shape3 {w : World} {v : Value} {l : List Ev} (h : RdE w v l) : ∃ a c, v = .slice a l.length c := by
  obtain ⟨a, c, h, _⟩ := h
  exact ⟨a, c, h⟩

theorem RdE.at {w : World} {a : Option Addr} {n c : Nat} {l : List Ev} (h : RdE w (.slice a n c) l) (i : Nat) (hi : i < l.length) : ∃ b o, a = some ⟨b, o, none⟩ ∧ ∀ j, j < 8 → w.cell? ⟨b, o + i * 8 + j, none⟩ = (l[i]).cs[j]? := by
  obtain ⟨a', c', hv, _, _, hl⟩ := h
  simp only [Value.slice.injEq] at hv
  obtain ⟨rfl, _, _⟩ := hv
  obtain ⟨b, o, rfl, hcell⟩ := hl (by rintro rfl; simp at hi)
  refine ⟨b, o, rfl, fun j hj => ?_⟩
  rw [← ecs_get l i j hi hj, Nat.add_assoc]
  exact hcell _ (by omega)

theorem RdE.src {P : Program} {w : World} {v : Value} {l : List Ev} (h : RdE w v l) {tx e' : TypeId} (hk : P.underlying tx = some (.slice e')) : Src P 8 tx v l.length (ecs l) w := by
  obtain ⟨a, c, rfl, hc, ha, hl⟩ := h
  by_cases hne : l = []
  · subst hne
    cases a with
    | none => obtain rfl := ha rfl; exact Src.ofNil w hk 0
    | some x => exact Src.ofSlice w hk x 0 c [] rfl (by simp) (by simp)
  · obtain ⟨b, o, rfl, hcell⟩ := hl hne
    refine Src.ofSlice w hk ⟨b, o, none⟩ l.length c (ecs l) (ecs_length l) (fun j u hu => ?_) (ecs_one l)
    have hj := (List.getElem?_eq_some_iff.1 hu).1
    rw [ecs_length] at hj
    rw [Addr.add_lit, hcell j hj]
    exact hu

def OwnE (w : World) (base : Nat) (e : TypeId) (v : Value) (l : List Ev) : Prop := w.ownsRow base e 8 v l.length (ecs l)

theorem OwnE.nil (w : World) (base : Nat) (e : TypeId) : OwnE w base e (.slice none 0 0) [] := World.ownsRow_nil w base e 8

theorem OwnE.rd {w : World} {base : Nat} {e : TypeId} {v : Value} {l : List Ev} (h : OwnE w base e v l) : RdE w v l := by
  rcases h.2 with ⟨rfl, hn⟩ | ⟨g, cap, cur, rfl, hb, hg, hnc, hcm, hcs, ht⟩
  · have : l = [] := List.eq_nil_of_length_eq_zero hn
    subst this
    exact RdE.nil w
  · refine ⟨some ⟨g, 0, none⟩, cap, rfl, hnc, by simp, fun _ => ⟨g, 0, rfl, fun k hk => ?_⟩⟩
    obtain ⟨u, hu⟩ := ecs_some l k hk
    have := World.ownsRow.cells h (g := g) rfl k u hu
    rw [hu]
    simpa [Addr.add_lit] using this

theorem OwnE.kept {w w' : World} {base : Nat} {e : TypeId} {v : Value} {l : List Ev} {bs : List Nat} (h : OwnE w base e v l) (hk : Kept w w' bs) (hb : ∀ b, v.ownBlock = some b → b ∉ bs) : OwnE w' base e v l := by
  refine ⟨h.1, ?_⟩
  rcases h.2 with h2 | ⟨g, cap, cur, rfl, hbg, hg, rest⟩
  · exact .inl h2
  · exact .inr ⟨g, cap, cur, rfl, hbg, hk.heap (hb g rfl) hg, rest⟩

theorem OwnE.mono {w : World} {base base' : Nat} {e : TypeId} {v : Value} {l : List Ev} (h : OwnE w base e v l) (hb : base' ≤ base) : OwnE w base' e v l := by
  refine ⟨h.1, ?_⟩
  rcases h.2 with h2 | ⟨g, cap, cur, rfl, hbg, r⟩
  · exact .inl h2
  · exact .inr ⟨g, cap, cur, rfl, by omega, r⟩

theorem OwnE.lt {w : World} {base : Nat} {e : TypeId} {v : Value} {l : List Ev} (h : OwnE w base e v l) : ∀ b, v.ownBlock = some b → base ≤ b ∧ b < w.heap.size := World.ownsRow.lt h

theorem OwnE.shape {w : World} {base : Nat} {e : TypeId} {v : Value} {l : List Ev} (h : OwnE w base e v l) : ∃ a c, v = .slice a l.length c := by
  rcases h.2 with ⟨rfl, hn⟩ | ⟨g, cap, cur, rfl, _⟩
  · exact ⟨none, 0, by rw [hn]⟩
  · exact ⟨_, _, rfl⟩

theorem OwnE.at {w : World} {base : Nat} {e : TypeId} {a : Option Addr} {n c : Nat} {l : List Ev} (h : OwnE w base e (.slice a n c) l) (i : Nat) (hi : i < l.length) :
    ∃ g, a = some ⟨g, 0, none⟩ ∧ ∀ j, j < 8 → w.cell? ⟨g, i * 8 + j, none⟩ = (l[i]).cs[j]? ∧ w.frozen? ⟨g, i * 8 + j, none⟩ = false := by
  rcases h.2 with ⟨h1, hn⟩ | ⟨g, cap, cur, hv, hb, hg, hnc, hcm, hcs, ht⟩
  · simp at hn; subst hn; simp at hi
  · simp only [Value.slice.injEq] at hv
    obtain ⟨rfl, _, _⟩ := hv
    refine ⟨g, rfl, fun j hj => ⟨?_, frozen_of_row _ _ _ _ _ hg⟩⟩
    obtain ⟨u, hu⟩ := ecs_some l (i * 8 + j) (by omega)
    have := World.ownsRow.cells h (g := g) rfl _ u hu
    rw [Addr.add_lit, Nat.zero_add] at this
    rw [this, ← hu, ecs_get l i j hi hj]

theorem heap_set8 {w : World} {g : Nat} {cs : Array Value} {t : TypeId} {fz : Nat × Nat} (h : w.heap[g]? = some (.cells cs t fz)) (k : Nat) (u0 u1 u2 u3 u4 u5 u6 u7 : Value) :
    ((((((((w.setCell ⟨g, k + 0, none⟩ u0).setCell ⟨g, k + 1, none⟩ u1).setCell ⟨g, k + 2, none⟩ u2).setCell ⟨g, k + 3, none⟩ u3).setCell ⟨g, k + 4, none⟩ u4).setCell ⟨g, k + 5, none⟩ u5).setCell ⟨g, k + 6, none⟩ u6).setCell ⟨g, k + 7, none⟩ u7).heap[g]? =
      some (.cells ((((((((cs.setIfInBounds (k + 0) u0).setIfInBounds (k + 1) u1).setIfInBounds (k + 2) u2).setIfInBounds (k + 3) u3).setIfInBounds (k + 4) u4).setIfInBounds (k + 5) u5).setIfInBounds (k + 6) u6).setIfInBounds (k + 7) u7) t fz) :=
  heap_setCell_at (heap_setCell_at (heap_setCell_at (heap_setCell_at (heap_setCell_at (heap_setCell_at (heap_setCell_at (heap_setCell_at h _ u0) _ u1) _ u2) _ u3) _ u4) _ u5) _ u6) _ u7

theorem set8_list (xs : List Value) (k : Nat) (u0 u1 u2 u3 u4 u5 u6 u7 : Value) (h : k + 8 ≤ xs.length) :
    ((((((((xs.set (k + 0) u0).set (k + 1) u1).set (k + 2) u2).set (k + 3) u3).set (k + 4) u4).set (k + 5) u5).set (k + 6) u6).set (k + 7) u7) = xs.take k ++ [u0, u1, u2, u3, u4, u5, u6, u7] ++ xs.drop (k + 8) := by
  have e : xs = xs.take k ++ (xs.drop k) := (List.take_append_drop k xs).symm
  obtain ⟨A, hA⟩ : ∃ A, A = xs.take k := ⟨_, rfl⟩
  obtain ⟨B, hB⟩ : ∃ B, B = xs.drop k := ⟨_, rfl⟩
  have hl : A.length = k := by rw [hA, List.length_take]; omega
  have hB8 : 8 ≤ B.length := by rw [hB, List.length_drop]; omega
  have hd : xs.drop (k + 8) = B.drop 8 := by rw [hB, List.drop_drop]
  rw [hd, ← hA]
  rw [← hA, ← hB] at e
  rw [e]
  match B, hB8 with
  | b0 :: b1 :: b2 :: b3 :: b4 :: b5 :: b6 :: b7 :: r, _ =>
    subst hl
    simp

theorem OwnE.put {w : World} {base g n c : Nat} {e : TypeId} {l : List Ev} (h : OwnE w base e (.slice (some ⟨g, 0, none⟩) n c) l) (i : Nat) (hi : i < l.length) (x : Ev) :
    OwnE ((((((((w.setCell ⟨g, i * 8, none⟩ (.int .i64 x.id)).setCell ⟨g, i * 8 + 1, none⟩ (.int .i64 x.tx)).setCell ⟨g, i * 8 + 2, none⟩ (.string x.ow)).setCell ⟨g, i * 8 + 3, none⟩ (.int .i64 x.tr)).setCell ⟨g, i * 8 + 4, none⟩ (.int .i64 x.tb)).setCell ⟨g, i * 8 + 5, none⟩ (.int .u8 x.kd)).setCell ⟨g, i * 8 + 6, none⟩ (.int .i64 x.key)).setCell ⟨g, i * 8 + 7, none⟩ (.string x.t))
      base e (.slice (some ⟨g, 0, none⟩) n c) (l.set i x) := by
  refine ⟨by rw [ecs_length, List.length_set], ?_⟩
  rcases h.2 with ⟨h1, _⟩ | ⟨g', cap, cur, hv, hb, hg, hnc, hcm, hcs, ht⟩
  · simp at h1
  · simp only [Value.slice.injEq, Option.some.injEq, Addr.mk.injEq] at hv
    obtain ⟨⟨rfl, _⟩, rfl, rfl⟩ := hv
    refine .inr ⟨g, c, _, by rw [List.length_set], hb, heap_set8 hg (i * 8) (.int .i64 x.id) (.int .i64 x.tx) (.string x.ow) (.int .i64 x.tr) (.int .i64 x.tb) (.int .u8 x.kd) (.int .i64 x.key) (.string x.t), by rw [List.length_set]; exact hnc, hcm, by simpa using hcs, ?_⟩
    have hl1 : cur.toList.length = cur.size := Array.length_toList
    have hl : l.length * 8 ≤ cur.toList.length := by omega
    simp only [Array.toList_setIfInBounds, List.length_set]
    rw [set8_list _ _ _ _ _ _ _ _ _ _ (by omega), ecs_set l i x hi, ← ht]
    have hA : (cur.toList.take (i * 8)).length = i * 8 := by rw [List.length_take]; omega
    rw [List.take_take, Nat.min_eq_left (by omega), List.take_append, List.take_of_length_le (by rw [List.length_append, hA]; simp; omega)]
    congr 1
    rw [List.length_append, hA, List.drop_take]
    rfl

end Go.Proofs.YticiofkiffgclaaGreat
