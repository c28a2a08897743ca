/-
  Bg, Dqa, Dqb, Dqc, Dqd in one text.
-/
import Derived.Test.YticiofkiffgclaaGreatNr39
import Derived.Test.YticiofkiffgclaaGreatNr32
import Derived.Test.YticiofkiffgclaaGreatNr25
import Derived.Test.YticiofkiffgclaaGreatNr5
import Derived.Test.YticiofkiffgclaaGreatNr38
import Derived.Test.YticiofkiffgclaaGreatNr33
import Derived.Test.YticiofkiffgclaaGreatNr7
import Derived.Test.YticiofkiffgclaaGreatNr10
import Derived.Deep.DeepCutAuto
import Derived.Test.YticiofkiffgclaaGreatNr17
namespace Go.Proofs.YticiofkiffgclaaGreat
set_option linter.unusedVariables false
open Go.RowKit Go.Maps

def idxB {α : Type} (P : α → Bool) (l : List α) : Int := match l.findIdx? P with | some i => i | none => -1

theorem idx_hit {α : Type} {P : α → Bool} {l : List α} {k : Nat} {r : α} (hr : l[k]? = some r) (hp : P r = true) (hb : ∀ j s, j < k → l[j]? = some s → P s = false) : idxB P l = k := by
  obtain ⟨hk, e⟩ := List.getElem?_eq_some_iff.1 hr
  have : l.findIdx? P = some k := by
    rw [List.findIdx?_eq_some_iff_getElem]
    refine ⟨hk, by rw [e]; exact hp, fun j hj => ?_⟩
    rw [hb j l[j] hj (List.getElem?_eq_getElem _)]
    simp
  rw [idxB, this]

theorem idx_miss {α : Type} {P : α → Bool} {l : List α} (hb : ∀ j s, j < l.length → l[j]? = some s → P s = false) : idxB P l = -1 := by
  have : l.findIdx? P = none := by
    rw [List.findIdx?_eq_none_iff]
    intro s hs
    obtain ⟨j, hj, e⟩ := List.mem_iff_getElem.1 hs
    exact hb j s hj (by rw [List.getElem?_eq_getElem hj, e])
  rw [idxB, this]

def PaysV (w : World) (l : List Ev) (c : Nat) (lb : Array Value) (P : Ev → Bool) : Prop :=
  ∀ (r : Ev) (V : World), r ∈ l → Kept w V [] → Calls Tryz.prog c (#[.agg r.cs] ++ lb) V fun e w' => e = .returned (.bool (P r)) ∧ Kept V w' []

set_option maxHeartbeats 2000000 in
theorem vindex_any {w : World} {sv : Value} {l : List Ev} (ho : RdE w sv l) (hlen : l.length < 1000000) (c : Nat) (lb : Array Value) (P : Ev → Bool) (ec : ∀ args w, (callFunc c args).run Tryz.prog w = .ok (.enter c args) w) (hc : PaysV w l c lb P) :
    Calls Tryz.prog 99 #[sv, .func (.func c) #[] lb] w fun e w' => e = .returned (.int .i64 (idxB P l)) ∧ Kept w w' [] := by
  have HC := Lib.hid hc
  obtain ⟨a, cp, rfl⟩ := ho.shape3
  have HO := Lib.hid ho
  clear hc ho
  go_enter Tryz.func99, Tryz.ntmps99
  go_wp2
  go_loopw [5, 8] (fun _ t wr => ∃ k : Nat, t = .int .i64 k ∧ k ≤ l.length ∧ Kept w wr [] ∧ (∀ j s, j < k → l[j]? = some s → P s = false)) (fun _ t _ => l.length - (intOf t).toNat)
  case atStart => exact ⟨0, rfl, Nat.zero_le _, Kept.refl w [], fun j s hj => absurd hj (Nat.not_lt_zero _)⟩
  case round =>
    obtain ⟨k, rfl, hk, hkw, hx⟩ := hrel
    have Hx := Lib.hid hx; have K := Lib.hid hkw
    clear hx hkw
    by_cases hlt : k < l.length
    · obtain ⟨r, hr⟩ : ∃ r, l[k]? = some r := ⟨_, List.getElem?_eq_getElem hlt⟩
      obtain ⟨b, o, rfl, c0, c1, c2, c3, c4, c5, c6, c7⟩ := (HO.out.kept K.out (by simp)).eight hr
      have HR := Lib.hid hr
      have x1 : (k : Int) < (l.length : Int) := by omega
      have call := HC.out r wr (List.mem_of_getElem? hr) K.out
      obtain ⟨q, hq⟩ : ∃ q, P r = q := ⟨_, rfl⟩
      rw [hq] at call
      have HQ := Lib.hid hq
      clear hr hq
      obtain ⟨b0, b1, b2, b3, b4, b5, b6, b7⟩ := r
      simp only [Ev.cs] at c0 c1 c2 c3 c4 c5 c6 c7 call
      cases q
      · go_wp2_with (go_at_fn c; refine call.mono ?_; rintro e w2 ⟨rfl, k2⟩)
        go_roundw
        case rel =>
          refine ⟨k + 1, by go_num, by omega, K.out.trans k2 (by simp), fun j s hj hs => ?_⟩
          by_cases e : j = k
          · subst e
            rw [HR.out] at hs
            cases hs
            exact HQ.out
          · exact Hx.out j s (by omega) hs
        case measure => simp [intOf]; omega
      · have R : RowKit.Hid (idxB P l = k) := Lib.hid (idx_hit HR.out HQ.out Hx.out)
        go_wp2_with (go_at_fn c; refine call.mono ?_; rintro e w2 ⟨rfl, k2⟩)
        go_ret
        rw [R.out]
        exact ⟨rfl, K.out.trans k2 (by simp)⟩
    · have R : RowKit.Hid (idxB P l = -1) := Lib.hid (idx_miss (fun j s hj => Hx.out j s (by omega)))
      have x1 : ¬ (k : Int) < (l.length : Int) := by omega
      go_wp2
      go_ret
      rw [R.out]
      exact ⟨rfl, K.out⟩

end Go.Proofs.YticiofkiffgclaaGreat

namespace Go.Proofs.YticiofkiffgclaaGreat
set_option linter.unusedVariables false
open Go.RowKit

structure Dv where
  mp : Value
  V : Nat → Value
  c : Nat
  VT : Value
  u : Value
  VC : Value
  VR : Value
  nx : Value
variable {T : TypeId} {w w' : World} {B h : Nat} {d : Dv} {l : Nat → List Ev} {xs : List Tk} {cs : List Cu} {rs : List It}

theorem tag_one {w : World} {k : Nat} {c1 c2 : Array Value} {t1 t2 : TypeId} {f1 f2 : Nat × Nat} (x : w.heap[k]? = some (.cells c1 t1 f1)) (y : w.heap[k]? = some (.cells c2 t2 f2)) : t1 = t2 := by
  rw [x] at y
  simp only [Option.some.injEq, Obj.cells.injEq] at y
  exact y.2.1

end Go.Proofs.YticiofkiffgclaaGreat

namespace Go.Proofs.YticiofkiffgclaaGreat
set_option linter.unusedVariables false
open Go.RowKit

theorem kcs_ecs : ∀ l : List Ev, kcs encEv l = ecs l
  | [] => rfl
  | e :: t => by rw [kcs, ecs, kcs_ecs t]; rfl
theorem ownE_iff {w : World} {base : Nat} {e : TypeId} {v : Value} {l : List Ev} : OwnE w base e v l ↔ OwnK encEv w base e v l := by
  unfold OwnE OwnK
  rw [kcs_ecs]
  exact Iff.rfl

structure Qs where
  l : Nat → List Ev
  c : Nat
  ps : List Pt
  cs : List Cu
  rs : List It
  nx : Int
def Qs.new : Qs := ⟨fun _ => [], 0, [], [], [], 1⟩

def wriV (q : Qs) (x tb kd key : Int) (t : ByteArray) : Ev := ⟨q.nx, x, ⟨#[]⟩, 0, tb, kd, key, t⟩
def wriQ (q : Qs) (x tb kd key : Int) (t : ByteArray) : Qs := { q with l := upd q.l q.c (q.l q.c ++ [wriV q x tb kd key t]), nx := wrap64 (q.nx + 1) }
def tckQ (q : Qs) (M : Int) (lo : List Int) (now : Int) : Qs := { q with ps := addS q.ps M lo now }
def rgsE (q : Qs) (n : ByteArray) : Int := if lastN q.ps = 0 then 9 else regE q.cs n (lastN q.ps)
def rgsQ (q : Qs) (n : ByteArray) : Qs := if lastN q.ps = 0 then q else { q with cs := regL q.cs n (lastN q.ps) }
def zeroP : Pt := ⟨0, 0, [], 0⟩
def nxtO (q : Qs) (n : ByteArray) : Option Pt := match getC q.cs n with | none => none | some x => if 0 < x.op then none else aftS q.ps x.la
def nxtE (q : Qs) (n : ByteArray) : Int := match getC q.cs n with | none => 4 | some x => if 0 < x.op then 7 else if (aftS q.ps x.la).isSome then 0 else 9
def nxtP (q : Qs) (n : ByteArray) : Pt := (nxtO q n).getD zeroP
def nxtQ (q : Qs) (n : ByteArray) : Qs := match nxtO q n with | some p => { q with cs := opnL q.cs n p.n } | none => q
def tckP (q : Qs) (n : Int) : Pt := (getS q.ps n).getD zeroP
def batE (q : Qs) (n : ByteArray) : Int := match getC q.cs n with | none => 4 | some x => if x.op = 0 then 7 else 0
def allE (q : Qs) : List Ev := srt byId (pre q.l 3)
def batV (st : List Nat) (q : Qs) (n : ByteArray) : List Ev := match getC q.cs n with
  | none => []
  | some x => if x.op = 0 then [] else srt byId ((allE q).filter (told st (tckP q x.la).M (tckP q x.la).l (tckP q x.op).M (tckP q x.op).l n))
def fnsQ (q : Qs) (n : ByteArray) : Qs := { q with cs := finL q.cs n }
def agnO (st : List Nat) (q : Qs) (n : ByteArray) (id : Int) : Option Ev := (batV st q n).find? fun e => e.id == id
def rtyE (st : List Nat) (q : Qs) (n : ByteArray) (id : Int) : Int := if batE q n = 0 then (match agnO st q n id with | some e => adiE q.rs e.id n | none => 4) else batE q n
def rtyQ (st : List Nat) (q : Qs) (n : ByteArray) (id at' : Int) : Qs := if batE q n = 0 then (match agnO st q n id with | some e => { q with rs := adiL q.rs e n at' } | none => q) else q
def setTx (x : Int) (e : Ev) : Ev := { e with tx := x }
def mntV (q : Qs) (x now : Int) : List Ev := (evs (dueI q.rs now)).map (setTx x)
def mntQ (q : Qs) (x now : Int) : Qs := { q with l := upd q.l q.c (q.l q.c ++ mntV q x now), rs := lftI q.rs now }
end Go.Proofs.YticiofkiffgclaaGreat

namespace Go.Proofs.YticiofkiffgclaaGreat
set_option linter.unusedVariables false
open Go.RowKit Go.Maps

def RiseN (ps : List Pt) : Prop := ps.Pairwise fun a b => a.n < b.n

theorem lastN_mem {ps : List Pt} (h : ps ≠ []) : ∃ p ∈ ps, p.n = lastN ps := by
  rcases List.eq_nil_or_concat ps with rfl | ⟨q, p, rfl⟩
  · exact absurd rfl h
  · rw [List.concat_eq_append]
    exact ⟨p, by simp, by rw [lastN_snoc]⟩
theorem aftS_mem {ps : List Pt} {n : Int} {p : Pt} (h : aftS ps n = some p) : p ∈ ps ∧ n < p.n := by
  unfold aftS at h
  exact ⟨List.mem_of_find?_eq_some h, by simpa using List.find?_some h⟩
theorem RiseN.add {ps : List Pt} (r : RiseN ps) (a : Okp ps) (M : Int) (l : List Int) (t : Int) : RiseN (addS ps M l t) := by
  unfold addS
  split
  · unfold RiseN
    rw [List.pairwise_append]
    refine ⟨r, by simp, ?_⟩
    intro x hx y hy
    obtain rfl := List.mem_singleton.1 hy
    have := a.up x hx
    show x.n < lastN ps + 1
    omega
  · exact r
theorem add_mem {ps : List Pt} {M : Int} {l : List Int} {t : Int} {p : Pt} (h : p ∈ addS ps M l t) : p ∈ ps ∨ p = ⟨lastN ps + 1, M, l, t⟩ := by
  unfold addS at h
  split at h
  · rcases List.mem_append.1 h with h | h
    · exact .inl h
    · exact .inr (List.mem_singleton.1 h)
  · exact .inl h
theorem mem_add {ps : List Pt} {M : Int} {l : List Int} {t : Int} {p : Pt} (h : p ∈ ps) : p ∈ addS ps M l t := by
  unfold addS
  split
  · exact List.mem_append_left _ h
  · exact h
theorem getC_mem {l : List Cu} {n : ByteArray} {x : Cu} (h : getC l n = some x) : x ∈ l := List.mem_of_find?_eq_some h

structure OkQ (q : Qs) : Prop where
  c3 : q.c < 3
  okp : Okp q.ps
  okc : OkC q.cs
  rise : RiseN q.ps
  pos : ∀ p ∈ q.ps, 1 ≤ p.n
  la : ∀ x ∈ q.cs, ∃ p ∈ q.ps, p.n = x.la
  op : ∀ x ∈ q.cs, x.op ≠ 0 → x.la < x.op ∧ ∃ p ∈ q.ps, p.n = x.op

theorem OkQ.new : OkQ Qs.new := ⟨by decide, Okp.nil, OkC.nil, List.Pairwise.nil, by simp [Qs.new], by simp [Qs.new], by simp [Qs.new]⟩
theorem OkQ.wri {q : Qs} (h : OkQ q) (x tb kd key : Int) (t : ByteArray) : OkQ (wriQ q x tb kd key t) := ⟨h.c3, h.okp, h.okc, h.rise, h.pos, h.la, h.op⟩
theorem OkQ.rty {q : Qs} (h : OkQ q) (st : List Nat) (n : ByteArray) (id at' : Int) : OkQ (rtyQ st q n id at') := by
  unfold rtyQ
  split
  · split
    · exact ⟨h.c3, h.okp, h.okc, h.rise, h.pos, h.la, h.op⟩
    · exact h
  · exact h
theorem OkQ.mnt {q : Qs} (h : OkQ q) (x now : Int) : OkQ (mntQ q x now) := ⟨h.c3, h.okp, h.okc, h.rise, h.pos, h.la, h.op⟩
theorem OkQ.tck {q : Qs} (h : OkQ q) {M : Int} {l : List Int} (now : Int) (hM : M ≤ 9223372036854775807) (hl : l.length ≤ 1000) : OkQ (tckQ q M l now) := by
  refine ⟨h.c3, h.okp.add now hM hl, h.okc, h.rise.add h.okp M l now, ?_, ?_, ?_⟩
  · intro p hp
    rcases add_mem hp with hp | rfl
    · exact h.pos p hp
    · have := h.okp.n0
      show 1 ≤ lastN q.ps + 1
      omega
  · intro x hx
    obtain ⟨p, hp, e⟩ := h.la x hx
    exact ⟨p, mem_add hp, e⟩
  · intro x hx hn
    obtain ⟨h1, p, hp, e⟩ := h.op x hx hn
    exact ⟨h1, p, mem_add hp, e⟩
theorem OkQ.rgs {q : Qs} (h : OkQ q) (n : ByteArray) : OkQ (rgsQ q n) := by
  unfold rgsQ
  split
  · exact h
  · rename_i h0
    have hne : q.ps ≠ [] := fun e => h0 (by rw [e]; rfl)
    have key : ∀ x ∈ regL q.cs n (lastN q.ps), x = ⟨n, lastN q.ps, 0⟩ ∨ x ∈ q.cs := by
      intro x hx
      unfold regL at hx
      split at hx
      · exact (insC_mem _ _ _).1 hx
      · exact .inr hx
    refine ⟨h.c3, h.okp, h.okc.reg n _, h.rise, h.pos, ?_, ?_⟩
    · intro x hx
      rcases key x hx with rfl | hx
      · exact lastN_mem hne
      · exact h.la x hx
    · intro x hx hn
      rcases key x hx with rfl | hx
      · exact absurd rfl hn
      · exact h.op x hx hn
theorem OkQ.nxt {q : Qs} (h : OkQ q) (n : ByteArray) : OkQ (nxtQ q n) := by
  unfold nxtQ
  cases ho : nxtO q n with
  | none => exact h
  | some p =>
    have hp : p ∈ q.ps := by
      unfold nxtO at ho
      split at ho
      · exact absurd ho (by simp)
      · split at ho
        · exact absurd ho (by simp)
        · exact (aftS_mem ho).1
    have key : ∀ x ∈ opnL q.cs n p.n, x ∈ q.cs ∨ ∃ y ∈ q.cs, x = ⟨n, y.la, p.n⟩ ∧ y.la < p.n := by
      intro x hx
      unfold opnL at hx
      split at hx
      · rename_i i y hi hy
        split at hx
        · exact .inl hx
        · rename_i hg
          rcases List.mem_or_eq_of_mem_set hx with hx | rfl
          · exact .inl hx
          · exact .inr ⟨y, getC_mem hy, rfl, by omega⟩
      · exact .inl hx
    refine ⟨h.c3, h.okp, h.okc.opn n _, h.rise, h.pos, ?_, ?_⟩
    · intro x hx
      rcases key x hx with hx | ⟨y, hy, rfl, _⟩
      · exact h.la x hx
      · exact h.la y hy
    · intro x hx hn
      rcases key x hx with hx | ⟨y, hy, rfl, hlt⟩
      · exact h.op x hx hn
      · exact ⟨hlt, p, hp, rfl⟩
theorem OkQ.fns {q : Qs} (h : OkQ q) (n : ByteArray) : OkQ (fnsQ q n) := by
  have key : ∀ x ∈ finL q.cs n, x ∈ q.cs ∨ ∃ y ∈ q.cs, x = ⟨n, y.op, 0⟩ ∧ y.op ≠ 0 := by
    intro x hx
    unfold finL at hx
    split at hx
    · rename_i i y hi hy
      split at hx
      · exact .inl hx
      · rename_i hg
        rcases List.mem_or_eq_of_mem_set hx with hx | rfl
        · exact .inl hx
        · exact .inr ⟨y, getC_mem hy, rfl, hg⟩
    · exact .inl hx
  refine ⟨h.c3, h.okp, h.okc.fin n, h.rise, h.pos, ?_, ?_⟩
  · intro x hx
    rcases key x hx with hx | ⟨y, hy, rfl, hn⟩
    · exact h.la x hx
    · exact (h.op y hy hn).2
  · intro x hx hn
    rcases key x hx with hx | ⟨y, hy, rfl, _⟩
    · exact h.op x hx hn
    · exact absurd rfl hn
theorem mem_pre3 {l : Nat → List Ev} {e : Ev} : e ∈ pre l 3 ↔ ∃ i, i < 3 ∧ e ∈ l i := by
  simp only [pre, List.nil_append, List.mem_append]
  constructor
  · rintro ((h | h) | h)
    · exact ⟨0, by omega, h⟩
    · exact ⟨1, by omega, h⟩
    · exact ⟨2, by omega, h⟩
  · rintro ⟨i, hi, h⟩
    have : i = 0 ∨ i = 1 ∨ i = 2 := by omega
    rcases this with rfl | rfl | rfl
    · exact .inl (.inl h)
    · exact .inl (.inr h)
    · exact .inr h
end Go.Proofs.YticiofkiffgclaaGreat

namespace Go.Proofs.YticiofkiffgclaaGreat
set_option linter.unusedVariables false
open Go.RowKit Go.Maps

theorem srtQ_mem {l : List Ev} {e : Ev} : e ∈ srt byId l ↔ e ∈ l := by rw [(srt_stab tot_byId l).mem tot_byId]

def seenP (p : Pt) (x : Int) : Bool := seesB p.M p.l x

/-! ## While they begin, write, end, and ticks come. -/

structure OnQ (nm : ByteArray) (st : List Nat) (q : Qs) : Prop where
  ok : OkQ q
  cs : q.cs = [⟨nm, 1, 0⟩]
  hd : q.ps[0]? = some ⟨1, 1, [], 0⟩
  tm : ∀ p ∈ q.ps, p.t = 0
  sees : ∀ p ∈ q.ps, ∀ x, seenP p x = true → x ≤ st.length ∧ stAt st x ≠ 1
  mono : q.ps.Pairwise fun a b => ∀ x, seenP a x = true → seenP b x = true
  evs : ∀ e ∈ pre q.l 3, (stAt st e.tx = 1 ∨ stAt st e.tx = 2) ∧ e.ow = ⟨#[]⟩ ∧ e.id < q.nx
  uniq : ∀ d : Int, (pre q.l 3).countP (fun e => e.id == d) ≤ 1

theorem OnQ.start {nm : ByteArray} (h1 : 1 ≤ nm.size) (h2 : nm.size ≤ 40) : regE [] nm 1 = 0 ∧ rgsQ (tckQ Qs.new 1 [] 0) nm = ⟨fun _ => [], 0, [⟨1, 1, [], 0⟩], [⟨nm, 1, 0⟩], [], 1⟩ ∧ rgsE (tckQ Qs.new 1 [] 0) nm = 0 ∧ OnQ nm [] (rgsQ (tckQ Qs.new 1 [] 0) nm) := by
  have e0 : addS [] 1 [] 0 = [⟨1, 1, [], 0⟩] := rfl
  have e1 : tckQ Qs.new 1 [] 0 = ⟨fun _ => [], 0, [⟨1, 1, [], 0⟩], [], [], 1⟩ := rfl
  have e2 : regE [] nm 1 = 0 := by
    unfold regE
    rw [if_neg (by omega)]
    rfl
  have e3 : rgsQ (tckQ Qs.new 1 [] 0) nm = ⟨fun _ => [], 0, [⟨1, 1, [], 0⟩], [⟨nm, 1, 0⟩], [], 1⟩ := by
    rw [e1]
    unfold rgsQ
    show (if (1 : Int) = 0 then _ else _) = _
    rw [if_neg (by omega)]
    show (⟨fun _ => [], 0, [⟨1, 1, [], 0⟩], regL [] nm 1, [], 1⟩ : Qs) = _
    unfold regL
    rw [e2]
    rfl
  have e4 : rgsE (tckQ Qs.new 1 [] 0) nm = 0 := by
    rw [e1]
    unfold rgsE
    show (if (1 : Int) = 0 then (9 : Int) else regE [] nm 1) = 0
    rw [if_neg (by omega), e2]
  refine ⟨e2, e3, e4, ?_⟩
  have ok : OkQ (rgsQ (tckQ Qs.new 1 [] 0) nm) := (OkQ.new.tck 0 (by omega) (by simp)).rgs nm
  rw [e3] at ok ⊢
  refine ⟨ok, rfl, rfl, by simp, ?_, by simp, by simp [pre], by simp [pre]⟩
  intro p hp x hx
  obtain rfl := List.mem_singleton.1 hp
  obtain ⟨a, b, _⟩ := seesB_iff.1 hx
  exfalso
  have b : x < 1 := b
  omega

end Go.Proofs.YticiofkiffgclaaGreat
