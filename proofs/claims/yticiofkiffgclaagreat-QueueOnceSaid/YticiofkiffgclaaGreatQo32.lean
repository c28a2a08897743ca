/-
  Dqe, Dqf, Dqg, Zqa, Zqb in one text.
-/
import Derived.Test.YticiofkiffgclaaGreatQo31
import Derived.Test.YticiofkiffgclaaGreatQo27
import Derived.Test.YticiofkiffgclaaGreatQo7
import Derived.Test.YticiofkiffgclaaGreatQo21
import Derived.Test.YticiofkiffgclaaGreatRows
import Derived.Test.YticiofkiffgclaaGreatChecked
import Derived.ProofKit
import Derived.Deep.QuietTactic
import Derived.BigQuiet
namespace Go.Proofs.YticiofkiffgclaaGreat
set_option linter.unusedVariables false
open Go.RowKit Go.Maps

structure EvW (e : Ev) : Prop where
  tx : -100 ≤ e.tx ∧ e.tx ≤ 100000
  tr : 0 ≤ e.tr ∧ e.tr ≤ 2147483647
  id : -100000 ≤ e.id ∧ e.id ≤ 100000
theorem EvW.wf {e : Ev} (h : EvW e) : (Lit.int .i64 e.tx).wf = true := wf_i64 (by have := h.tx; omega)
structure SzQ (k : Nat) (q : Qs) : Prop where
  ok : OkQ q
  oki : OkI q.rs
  len : lenN q.l ≤ 16 * k
  nx : 1 ≤ q.nx ∧ q.nx ≤ (k : Int) + 1
  ev : ∀ e ∈ pre q.l 3, EvW e
  it : ∀ x ∈ q.rs, EvW x.e
  last : lastN q.ps ≤ k

theorem SzQ.mono {k k' : Nat} {q : Qs} (h : SzQ k q) (hk : k ≤ k') : SzQ k' q := ⟨h.ok, h.oki, by have := h.len; omega, by have := h.nx; omega, h.ev, h.it, by have := h.last; omega⟩
theorem SzQ.new : SzQ 0 Qs.new := ⟨OkQ.new, OkI.nil, by simp [lenN, Qs.new], by simp [Qs.new], by simp [Qs.new, pre], by simp [Qs.new], by simp [Qs.new, lastN]⟩
theorem lenN_ge (l : Nat → List Ev) {i : Nat} (hi : i < 3) : (l i).length ≤ lenN l := by
  unfold lenN
  have : i = 0 ∨ i = 1 ∨ i = 2 := by omega
  rcases this with rfl | rfl | rfl <;> omega
theorem SzQ.table {k : Nat} {q : Qs} (h : SzQ k q) {i : Nat} (hi : i < 3) : (q.l i).length ≤ 16 * k := Nat.le_trans (lenN_ge q.l hi) h.len
theorem pre_lenN (l : Nat → List Ev) : (pre l 3).length = lenN l := by simp [pre, lenN]; omega
theorem SzQ.all {k : Nat} {q : Qs} (h : SzQ k q) : (allE q).length ≤ 16 * k ∧ ∀ e ∈ allE q, EvW e := by
  refine ⟨?_, fun e he => h.ev e (srtQ_mem.1 he)⟩
  unfold allE
  rw [srt_length, pre_lenN]
  exact h.len
theorem SzQ.bat {k : Nat} {q : Qs} (h : SzQ k q) (st : List Nat) (n : ByteArray) : (batV st q n).length ≤ 16 * k ∧ ∀ e ∈ batV st q n, EvW e := by
  unfold batV
  split
  · simp
  · split
    · simp
    · refine ⟨?_, fun e he => ?_⟩
      · rw [srt_length]
        exact Nat.le_trans (List.length_filter_le _ _) h.all.1
      · rw [srtQ_mem, List.mem_filter] at he
        exact h.all.2 e he.1
theorem lenN_upd (l : Nat → List Ev) {c : Nat} (hc : c < 3) (m : List Ev) : lenN (upd l c (l c ++ m)) = lenN l + m.length := by
  unfold lenN
  have : c = 0 ∨ c = 1 ∨ c = 2 := by omega
  rcases this with rfl | rfl | rfl
  · simp [upd]; omega
  · simp [upd]; omega
  · simp [upd]; omega
theorem mem_upd {l : Nat → List Ev} {c : Nat} {m : List Ev} {e : Ev} (h : e ∈ pre (upd l c (l c ++ m)) 3) : e ∈ pre l 3 ∨ e ∈ m := by
  obtain ⟨i, hi, hm⟩ := mem_pre3.1 h
  by_cases hic : i = c
  · subst hic
    rw [upd_same] at hm
    rcases List.mem_append.1 hm with hm | hm
    · exact .inl (mem_pre3.2 ⟨i, hi, hm⟩)
    · exact .inr hm
  · rw [upd_ne _ _ hic] at hm
    exact .inl (mem_pre3.2 ⟨i, hi, hm⟩)

theorem SzQ.wri {k : Nat} {q : Qs} (h : SzQ k q) (hk : k < 1000) {x : Int} (hx : -100 ≤ x ∧ x ≤ 100000) (tb kd key : Int) (t : ByteArray) : SzQ (k + 1) (wriQ q x tb kd key t) ∧ (wriQ q x tb kd key t).nx = q.nx + 1 := by
  have hw : wrap64 (q.nx + 1) = q.nx + 1 := by have := h.nx; unfold wrap64; omega
  have e1 : (wriQ q x tb kd key t).nx = q.nx + 1 := hw
  refine ⟨⟨h.ok.wri x tb kd key t, h.oki, ?_, by rw [e1]; have := h.nx; omega, ?_, h.it, by have := h.last; show lastN q.ps ≤ _; omega⟩, e1⟩
  · show lenN (upd q.l q.c (q.l q.c ++ [wriV q x tb kd key t])) ≤ _
    rw [lenN_upd _ h.ok.c3]
    have := h.len
    simp only [List.length_singleton]
    omega
  · intro e he
    rcases mem_upd he with he | he
    · exact h.ev e he
    · obtain rfl := List.mem_singleton.1 he
      have := h.nx
      exact ⟨hx, by show (0 : Int) ≤ 0 ∧ (0 : Int) ≤ 2147483647; omega, by show -100000 ≤ q.nx ∧ q.nx ≤ 100000; omega⟩
theorem SzQ.frg {k : Nat} {q : Qs} (h : SzQ k q) (x : Int) : SzQ k (frgQ q x) := by
  refine ⟨h.ok.frg x, h.oki, Nat.le_trans (lenN_le x q.l) h.len, h.nx, ?_, h.it, h.last⟩
  intro e he
  obtain ⟨i, hi, hm⟩ := mem_pre3.1 he
  exact h.ev e (mem_pre3.2 ⟨i, hi, (List.mem_filter.1 hm).1⟩)
theorem SzQ.tck {k : Nat} {q : Qs} (h : SzQ k q) {M : Int} {l : List Int} (now : Int) (hM : M ≤ 9223372036854775807) (hl : l.length ≤ 1000) : SzQ (k + 1) (tckQ q M l now) := by
  have h1 := h.len
  have h2 := h.nx
  have h3 := h.last
  refine ⟨h.ok.tck now hM hl, h.oki, by show lenN q.l ≤ _; omega, by show 1 ≤ q.nx ∧ q.nx ≤ _; omega, h.ev, h.it, ?_⟩
  show lastN (addS q.ps M l now) ≤ _
  rw [lastN_add]
  split <;> omega
theorem SzQ.rgs {k : Nat} {q : Qs} (h : SzQ k q) (n : ByteArray) : SzQ k (rgsQ q n) := by
  have := h.ok.rgs n
  unfold rgsQ at this ⊢
  split
  · exact h
  · rename_i h0
    rw [if_neg h0] at this
    exact ⟨this, h.oki, h.len, h.nx, h.ev, h.it, h.last⟩
theorem SzQ.nxt {k : Nat} {q : Qs} (h : SzQ k q) (n : ByteArray) : SzQ k (nxtQ q n) := by
  have := h.ok.nxt n
  unfold nxtQ at this ⊢
  cases ho : nxtO q n with
  | none => exact h
  | some p =>
    rw [ho] at this
    exact ⟨this, h.oki, h.len, h.nx, h.ev, h.it, h.last⟩
theorem SzQ.fns {k : Nat} {q : Qs} (h : SzQ k q) (n : ByteArray) : SzQ k (fnsQ q n) := ⟨h.ok.fns n, h.oki, h.len, h.nx, h.ev, h.it, h.last⟩
theorem SzQ.rot {k : Nat} {q : Qs} (h : SzQ k q) (st : List Nat) : SzQ k (rotQ st q).2.2 := by
  refine ⟨h.ok.rot st, h.oki, ?_, h.nx, fun e he => h.ev e (rot_mem he), h.it, h.last⟩
  refine Nat.le_trans ?_ h.len
  show lenN (rotS q.l q.c (freQ st q)).2.2.1 ≤ _
  unfold rotS
  split
  · exact Nat.le_refl _
  · split
    · show lenN (upd q.l (Go.Proofs.YticiofkiffgclaaGreat.nxt q.c) []) ≤ _
      unfold lenN
      have : ∀ i, (upd q.l (Go.Proofs.YticiofkiffgclaaGreat.nxt q.c) [] i).length ≤ (q.l i).length := by
        intro i
        unfold upd
        split
        · simp
        · exact Nat.le_refl _
      have a0 := this 0
      have a1 := this 1
      have a2 := this 2
      omega
    · exact Nat.le_refl _
end Go.Proofs.YticiofkiffgclaaGreat

namespace Go.Proofs.YticiofkiffgclaaGreat
set_option linter.unusedVariables false
open Go.RowKit Go.Maps

def qa : ByteArray := ⟨#[97]⟩
def qb : ByteArray := ⟨#[98]⟩
theorem qa_list : qa.toList = [97] := by rw [ByteArray.toList_eq]; rfl
theorem qb_list : qb.toList = [98] := by rw [ByteArray.toList_eq]; rfl
variable (tb kd key : Int) (t : ByteArray)
def re1 : Ev := ⟨1, 1, ⟨#[]⟩, 0, tb, kd, key, t⟩
def re2 : Ev := ⟨1, 2, qa, 1, tb, kd, key, t⟩
def rIt (at' : Int) : It := ⟨at', ⟨1, 1, qa, 1, tb, kd, key, t⟩⟩
def pt1 : Pt := ⟨1, 1, [], 0⟩
def pt2 : Pt := ⟨2, 2, [], 0⟩
def pt3 (at' : Int) : Pt := ⟨3, 3, [], at'⟩
def tb1 : Nat → List Ev := upd (fun _ => []) 0 [re1 tb kd key t]
def tb2 : Nat → List Ev := upd (tb1 tb kd key t) 0 [re1 tb kd key t, re2 tb kd key t]

theorem qab : qa ≠ qb := fun h => by
  have := congrArg ByteArray.toList h
  rw [qa_list, qb_list] at this
  exact absurd this (by decide)
theorem isN_no {n : ByteArray} {x : Cu} (h : x.nm ≠ n) : isN n x = false := by
  cases hq : isN n x with
  | false => rfl
  | true => exact absurd (isN_iff.1 hq) h
theorem cB (a b c d : Int) : getC [⟨qa, a, b⟩, ⟨qb, c, d⟩] qb = some ⟨qb, c, d⟩ ∧ plc [⟨qa, a, b⟩, ⟨qb, c, d⟩] qb = some 1 := by
  have h : isN qb ⟨qb, c, d⟩ = true := isN_iff.2 rfl
  have h2 : isN qb ⟨qa, a, b⟩ = false := isN_no qab
  constructor
  · unfold getC
    rw [List.find?_cons, h2, List.find?_cons, h]
  · refine plc_hit (x := ⟨qb, c, d⟩) rfl h ?_
    intro j y hj hy
    obtain rfl : j = 0 := by omega
    obtain rfl : (⟨qa, a, b⟩ : Cu) = y := by simpa using hy
    exact h2

def q5 : Qs := ⟨tb1 tb kd key t, 0, [pt1, pt2], [⟨qa, 1, 2⟩, ⟨qb, 1, 0⟩], [], 2⟩
def q6 (at' : Int) : Qs := ⟨tb1 tb kd key t, 0, [pt1, pt2], [⟨qa, 1, 2⟩, ⟨qb, 1, 0⟩], [rIt tb kd key t at'], 2⟩
def q7 (at' : Int) : Qs := ⟨tb1 tb kd key t, 0, [pt1, pt2], [⟨qa, 2, 0⟩, ⟨qb, 1, 0⟩], [rIt tb kd key t at'], 2⟩
def q9 (at' : Int) : Qs := ⟨tb2 tb kd key t, 0, [pt1, pt2, pt3 at'], [⟨qa, 2, 0⟩, ⟨qb, 1, 0⟩], [], 2⟩
end Go.Proofs.YticiofkiffgclaaGreat

namespace Go.Proofs.YticiofkiffgclaaGreat
set_option linter.unusedVariables false
open Go.RowKit Go.Maps

def Off (ts : List TypeId) (w : World) : Nat → Prop := fun k => ¬ ∃ c t f, w.heap[k]? = some (.cells c t f) ∧ t ∉ ts
theorem Fm.fo {B : Nat} {ts : List TypeId} {w w' : World} (h : Fm B ts w w') : Fo (Off ts w) w w' :=
  ⟨h.os, h.tape, h.output, h.size, fun k hk hn => by
    obtain ⟨c, t, f, h1, h2⟩ := Classical.not_not.1 hn
    rw [h1]
    exact h.heap h1 h2⟩
theorem off_not {ts : List TypeId} {w : World} {k : Nat} {c : Array Value} {t : TypeId} {f : Nat × Nat} (h : w.heap[k]? = some (.cells c t f)) (ht : t ∉ ts) : ¬ Off ts w k := fun ho => ho ⟨c, t, f, h, ht⟩
theorem off_noI {ts : List TypeId} {w : World} (ht : 2 ∉ ts) : NoI w (Off ts w) := fun k hk c f h => off_not h ht hk

def NoT (w : World) (O : Nat → Prop) (ts : List TypeId) : Prop := ∀ k, O k → ∀ c t f, w.heap[k]? = some (.cells c t f) → t ∉ ts
def NoM (w : World) (O : Nat → Prop) : Prop := ∀ k, O k → ∀ es c, w.heap[k]? ≠ some (.map es c)

theorem ownsRow_tag {w : World} {base e size n : Nat} {v : Value} {xs : List Value} (h : w.ownsRow base e size v n xs) {g : Nat} (hg : v.ownBlock = some g) : ∃ cur, w.heap[g]? = some (.cells cur e (0, 0)) := by
  rcases h.2 with ⟨h2, _⟩ | ⟨g', cap, cur, rfl, _, hc, _⟩
  · rw [h2] at hg; cases hg
  · obtain rfl : g' = g := by simpa [Value.ownBlock] using hg
    exact ⟨cur, hc⟩
theorem ownsMap_fo {H : Type} {P : Program} {k : TypeId} {R : Value → Option (DataW H × List MemPlace)} {w w' : World} {b n : Nat} {O : Nat → Prop} {D : DataW H} (h : w.ownsMap P k R b n D) (hf : Fo O w w') (hn : NoM w O) : w'.ownsMap P k R b n D := by
  obtain ⟨es, c, hb, r⟩ := h
  exact ⟨es, c, hf.heap (fun ho => hn b ho _ _ hb) hb, r⟩

theorem Mg.fo {w w' : World} {B p b : Nat} {v : Value} {st : List Nat} {O : Nat → Prop} (h : Mg w B p b v st) (hf : Fo O w w') (hn : NoT w O mts) (hm : NoM w O) : Mg w' B p b v st :=
  { h with
    hp := hf.heap (fun ho => hn p ho _ _ _ h.hp (by simp [mts])) h.hp
    hm := ownsMap_fo h.hm hf hm
    hv := ownsRow_fo h.hv hf fun g hg ho => by
      obtain ⟨cur, hc⟩ := ownsRow_tag h.hv hg
      exact hn g ho _ _ _ hc (by simp [mts]) }

variable {T : TypeId} {w w' : World} {B h : Nat} {d : Dv} {l : Nat → List Ev} {xs : List Tk} {cs : List Cu} {rs : List It}

variable {q : Nat} {v : Value} {st : List Nat}
end Go.Proofs.YticiofkiffgclaaGreat

namespace Go.Proofs.YticiofkiffgclaaGreat
set_option linter.unusedVariables false
open Go.RowKit Go.Maps

abbrev quT : TypeId := 122
structure Hk where
  h : Nat
  p : Nat
  hs : Nat
  ht : Nat
  hc : Nat
  hr : Nat
structure Kv where
  V : Nat → Value
  VT : Value
  VC : Value
  VR : Value
  nx : Value
def kR (a : Hk) (d : Kv) : Array Value := #[.pointer (some ⟨a.p, 0, none⟩), .pointer (some ⟨a.hs, 0, none⟩), .pointer (some ⟨a.ht, 0, none⟩), .pointer (some ⟨a.hc, 0, none⟩), .pointer (some ⟨a.hr, 0, none⟩), d.nx]
def kfoot (a : Hk) (d : Kv) : Nat → Prop := fun k => k = a.h ∨ sfoot a.hs d.V k ∨ tfoot a.ht d.VT k ∨ cfoot a.hc d.VC k ∨ lfoot a.hr d.VR k

structure Kq (w : World) (B : Nat) (a : Hk) (d : Kv) (l : Nat → List Ev) (c : Nat) (xs : List Tk) (cs : List Cu) (rs : List It) : Prop where
  hh : w.heap[a.h]? = some (.cells (kR a d) quT (0, 0))
  bh : B ≤ a.h
  sp : Sp spT w B a.hs d.V l c
  ds : Dst d.V
  tk : Tc tkT [] w B a.ht d.VT xs
  cu : Cc cuT cuE w B a.hc d.VC cs
  rt : Ls encIt rtT rtE w B a.hr d.VR rs

variable {w w' : World} {B : Nat} {a : Hk} {d : Kv} {l : Nat → List Ev} {c : Nat} {xs : List Tk} {cs : List Cu} {rs : List It}

theorem Kq.tyS (q : Kq w B a d l c xs cs rs) {k : Nat} (hk : sfoot a.hs d.V k) : ∃ x t f, w.heap[k]? = some (.cells x t f) ∧ t ∈ [spT, evT] := by
  rcases hk with rfl | ⟨i, hi, hk⟩
  · exact ⟨_, _, _, q.sp.hh, by simp⟩
  · obtain ⟨x, hx⟩ := (q.sp.own i hi).tag hk
    exact ⟨_, _, _, hx, by simp⟩
theorem Kq.tyT (q : Kq w B a d l c xs cs rs) {k : Nat} (hk : tfoot a.ht d.VT k) : ∃ x t f, w.heap[k]? = some (.cells x t f) ∧ t ∈ [tkT, 38] := by
  rcases hk with rfl | hk
  · exact ⟨_, _, _, q.tk.hh, by simp⟩
  · obtain ⟨x, hx⟩ := q.tk.own.tag hk
    exact ⟨_, _, _, hx, by simp⟩
theorem Kq.tyC (q : Kq w B a d l c xs cs rs) {k : Nat} (hk : cfoot a.hc d.VC k) : ∃ x t f, w.heap[k]? = some (.cells x t f) ∧ t ∈ [cuT, cuE] := by
  rcases hk with rfl | hk
  · exact ⟨_, _, _, q.cu.hh, by simp⟩
  · obtain ⟨x, hx⟩ := q.cu.own.tag hk
    exact ⟨_, _, _, hx, by simp⟩
theorem Kq.tyR (q : Kq w B a d l c xs cs rs) {k : Nat} (hk : lfoot a.hr d.VR k) : ∃ x t f, w.heap[k]? = some (.cells x t f) ∧ t ∈ [rtT, rtE] := by
  rcases hk with rfl | hk
  · exact ⟨_, _, _, q.rt.hh, by simp⟩
  · obtain ⟨x, hx⟩ := q.rt.own.tag hk
    exact ⟨_, _, _, hx, by simp⟩
def kts : List TypeId := [quT, spT, evT, tkT, 38, cuT, cuE, rtT, rtE]
theorem two_tags {w : World} {k : Nat} {c1 c2 : Array Value} {t1 t2 : TypeId} {f1 f2 : Nat × Nat} {A C : List TypeId} (x : w.heap[k]? = some (.cells c1 t1 f1)) (hx : t1 ∈ A) (y : w.heap[k]? = some (.cells c2 t2 f2)) (hy : t2 ∈ C) (h : ∀ t ∈ A, t ∉ C) : False := by
  have := tag_one x y
  subst this
  exact h _ hx hy
theorem Kq.kind (q : Kq w B a d l c xs cs rs) {k : Nat} (hk : kfoot a d k) : ∃ x t f, w.heap[k]? = some (.cells x t f) ∧ t ∈ kts := by
  rcases hk with rfl | hk | hk | hk | hk
  · exact ⟨_, _, _, q.hh, by simp [kts]⟩
  · obtain ⟨x, t, f, h1, h2⟩ := q.tyS hk
    exact ⟨x, t, f, h1, (by decide : ∀ t ∈ [spT, evT], t ∈ kts) t h2⟩
  · obtain ⟨x, t, f, h1, h2⟩ := q.tyT hk
    exact ⟨x, t, f, h1, (by decide : ∀ t ∈ [tkT, 38], t ∈ kts) t h2⟩
  · obtain ⟨x, t, f, h1, h2⟩ := q.tyC hk
    exact ⟨x, t, f, h1, (by decide : ∀ t ∈ [cuT, cuE], t ∈ kts) t h2⟩
  · obtain ⟨x, t, f, h1, h2⟩ := q.tyR hk
    exact ⟨x, t, f, h1, (by decide : ∀ t ∈ [rtT, rtE], t ∈ kts) t h2⟩
theorem Kq.lt (q : Kq w B a d l c xs cs rs) : ∀ k, kfoot a d k → B ≤ k ∧ k < w.heap.size := by
  rintro k (rfl | hk | hk | hk | hk)
  · exact ⟨q.bh, heap_lt q.hh⟩
  · exact q.sp.lt k hk
  · exact q.tk.lt k hk
  · exact q.cu.lt k hk
  · exact q.rt.lt k hk
theorem Kq.noT (q : Kq w B a d l c xs cs rs) {ts : List TypeId} (ht : ∀ t ∈ kts, t ∉ ts) : NoT w (kfoot a d) ts := by
  intro k hk x t f hc hm
  obtain ⟨x2, t2, f2, h1, h2⟩ := q.kind hk
  exact two_tags h1 h2 hc hm ht
theorem Kq.noI (q : Kq w B a d l c xs cs rs) : NoI w (kfoot a d) := fun k hk x f hc => q.noT (ts := [2]) (by decide) k hk x _ f hc (by simp)
theorem Kq.noM (q : Kq w B a d l c xs cs rs) : NoM w (kfoot a d) := by
  intro k hk es x hc
  obtain ⟨x2, t2, f2, h1, h2⟩ := q.kind hk
  rw [h1] at hc
  cases hc
theorem Kq.fo (q : Kq w B a d l c xs cs rs) {O : Nat → Prop} (hf : Fo O w w') (hd : ∀ k, kfoot a d k → ¬ O k) (hn : NoI w O) : Kq w' B a d l c xs cs rs :=
  ⟨hf.heap (hd _ (.inl rfl)) q.hh, q.bh, q.sp.fo hf (fun k hk => hd k (.inr (.inl hk))), q.ds, q.tk.fo hf (fun k hk => hd k (.inr (.inr (.inl hk)))) hn, q.cu.fo hf (fun k hk => hd k (.inr (.inr (.inr (.inl hk))))), q.rt.fo hf (fun k hk => hd k (.inr (.inr (.inr (.inr hk)))))⟩
theorem Kq.keep (q : Kq w B a d l c xs cs rs) (hk : Kept w w' []) : Kq w' B a d l c xs cs rs := q.fo (Fo.ofKept hk (fun _ => False)) (fun _ _ h => h) (NoI.none w)
theorem Kq.fm (q : Kq w B a d l c xs cs rs) {C : Nat} {ts : List TypeId} (hf : Fm C ts w w') (ht : ∀ t ∈ kts, t ∉ ts) (hi : 2 ∉ ts) : Kq w' B a d l c xs cs rs := by
  refine q.fo hf.fo (fun k hk ho => ?_) (off_noI hi)
  obtain ⟨c, t, f, h1, h2⟩ := q.kind hk
  exact off_not h1 (ht t h2) ho
theorem Kq.cell (q : Kq w B a d l c xs cs rs) {i : Nat} {v : Value} (hv : (kR a d)[i]? = some v) : w.cell? ⟨a.h, i, none⟩ = some v ∧ w.frozen? ⟨a.h, i, none⟩ = false :=
  ⟨by have e : (kR a d) = (kR a d).toList.toArray := rfl
      have hh := q.hh
      rw [e] at hh
      rw [cell_of_row _ _ _ _ _ _ hh]; simpa using hv, by
      have e : (kR a d) = (kR a d).toList.toArray := rfl
      have hh := q.hh
      rw [e] at hh
      exact frozen_of_row _ _ _ _ _ hh⟩

theorem not_h {w : World} {k h : Nat} {x : Array Value} {T : TypeId} {f : Nat × Nat} (hh : w.heap[h]? = some (.cells x T f)) {C : List TypeId} (hT : T ∉ C) (y : ∃ x t f, w.heap[k]? = some (.cells x t f) ∧ t ∈ C) : k ≠ h := by
  rintro rfl
  obtain ⟨x2, t2, f2, h1, h2⟩ := y
  rw [tag_one hh h1] at hT
  exact hT h2
theorem dis2 {w : World} {k : Nat} {A C : List TypeId} (x : ∃ x t f, w.heap[k]? = some (.cells x t f) ∧ t ∈ A) (y : ∃ x t f, w.heap[k]? = some (.cells x t f) ∧ t ∈ C) (h : ∀ t ∈ A, t ∉ C) : False := by
  obtain ⟨x1, t1, f1, h1, h2⟩ := x
  obtain ⟨x2, t2, f2, h3, h4⟩ := y
  exact two_tags h1 h2 h3 h4 h

theorem Kq.ofSpools (q : Kq w B a d l c xs cs rs) {V' : Nat → Value} {l' : Nat → List Ev} {c' : Nat} (s : Sp spT w' B a.hs V' l' c') (hd : Dst V') (st : Stp (sfoot a.hs d.V) (sfoot a.hs V') w w') :
    Kq w' B a { d with V := V' } l' c' xs cs rs ∧ Stp (kfoot a d) (kfoot a { d with V := V' }) w w' := by
  have hf := st.1
  have hn : NoI w (sfoot a.hs d.V) := fun k hk => q.noI k (.inr (.inl hk))
  refine ⟨⟨hf.heap (fun hk => not_h q.hh (by decide) (q.tyS hk) rfl) q.hh, q.bh, s, hd, q.tk.fo hf (fun k hk ho => dis2 (q.tyT hk) (q.tyS ho) (by decide)) hn, q.cu.fo hf (fun k hk ho => dis2 (q.tyC hk) (q.tyS ho) (by decide)), q.rt.fo hf (fun k hk ho => dis2 (q.tyR hk) (q.tyS ho) (by decide))⟩, hf.mono (fun k hk => .inr (.inl hk)), ?_⟩
  rintro k (hk | hk | hk)
  · exact .inl (.inl hk)
  · exact (st.2 k hk).imp (fun h => .inr (.inl h)) id
  · exact .inl (.inr (.inr hk))
theorem Kq.ofTicks (q : Kq w B a d l c xs cs rs) {VT' : Value} {xs' : List Tk} (s : Tc tkT [] w' B a.ht VT' xs') (st : Stp (tfoot a.ht d.VT) (tfoot a.ht VT') w w') :
    Kq w' B a { d with VT := VT' } l c xs' cs rs ∧ Stp (kfoot a d) (kfoot a { d with VT := VT' }) w w' := by
  have hf := st.1
  refine ⟨⟨hf.heap (fun hk => not_h q.hh (by decide) (q.tyT hk) rfl) q.hh, q.bh, q.sp.fo hf (fun k hk ho => dis2 (q.tyS hk) (q.tyT ho) (by decide)), q.ds, s, q.cu.fo hf (fun k hk ho => dis2 (q.tyC hk) (q.tyT ho) (by decide)), q.rt.fo hf (fun k hk ho => dis2 (q.tyR hk) (q.tyT ho) (by decide))⟩, hf.mono (fun k hk => .inr (.inr (.inl hk))), ?_⟩
  rintro k (hk | hk | hk | hk)
  · exact .inl (.inl hk)
  · exact .inl (.inr (.inl hk))
  · exact (st.2 k hk).imp (fun h => .inr (.inr (.inl h))) id
  · exact .inl (.inr (.inr (.inr hk)))
theorem Kq.ofCursors (q : Kq w B a d l c xs cs rs) {VC' : Value} {cs' : List Cu} (s : Cc cuT cuE w' B a.hc VC' cs') (st : Stp (cfoot a.hc d.VC) (cfoot a.hc VC') w w') :
    Kq w' B a { d with VC := VC' } l c xs cs' rs ∧ Stp (kfoot a d) (kfoot a { d with VC := VC' }) w w' := by
  have hf := st.1
  have hn : NoI w (cfoot a.hc d.VC) := fun k hk => q.noI k (.inr (.inr (.inr (.inl hk))))
  refine ⟨⟨hf.heap (fun hk => not_h q.hh (by decide) (q.tyC hk) rfl) q.hh, q.bh, q.sp.fo hf (fun k hk ho => dis2 (q.tyS hk) (q.tyC ho) (by decide)), q.ds, q.tk.fo hf (fun k hk ho => dis2 (q.tyT hk) (q.tyC ho) (by decide)) hn, s, q.rt.fo hf (fun k hk ho => dis2 (q.tyR hk) (q.tyC ho) (by decide))⟩, hf.mono (fun k hk => .inr (.inr (.inr (.inl hk)))), ?_⟩
  rintro k (hk | hk | hk | hk | hk)
  · exact .inl (.inl hk)
  · exact .inl (.inr (.inl hk))
  · exact .inl (.inr (.inr (.inl hk)))
  · exact (st.2 k hk).imp (fun h => .inr (.inr (.inr (.inl h)))) id
  · exact .inl (.inr (.inr (.inr (.inr hk))))
theorem Kq.setNext (q : Kq w B a d l c xs cs rs) (v : Value) : Kq (w.setCell ⟨a.h, 5, none⟩ v) B a { d with nx := v } l c xs cs rs ∧ Stp (kfoot a d) (kfoot a { d with nx := v }) w (w.setCell ⟨a.h, 5, none⟩ v) := by
  have hf : Fo (fun k => k = a.h) w (w.setCell ⟨a.h, 5, none⟩ v) := Fo.setCell (O := fun k => k = a.h) (Fo.refl _ w) (p := ⟨a.h, 5, none⟩) (.inl rfl) v
  have hn : NoI w (fun k => k = a.h) := fun k hk => q.noI k (.inl hk)
  refine ⟨⟨by rw [heap_setCell_at q.hh]; rfl, q.bh, q.sp.fo hf (fun k hk e => not_h q.hh (by decide) (q.tyS hk) e), q.ds, q.tk.fo hf (fun k hk e => not_h q.hh (by decide) (q.tyT hk) e) hn, q.cu.fo hf (fun k hk e => not_h q.hh (by decide) (q.tyC hk) e), q.rt.fo hf (fun k hk e => not_h q.hh (by decide) (q.tyR hk) e)⟩, hf.mono (fun k hk => .inl hk), fun k hk => .inl hk⟩

structure KS (w : World) (B : Nat) (a : Hk) (st : List Nat) (q : Qs) (O : Nat → Prop) : Prop where
  ex : ∃ (b : Nat) (u : Value) (d : Kv) (xs : List Tk), Kq w B a d q.l q.c xs q.cs q.rs ∧ Mg w B a.p b u st ∧ xs.map Tk.pl = q.ps ∧ d.nx = .int .i64 q.nx ∧ O = kfoot a d
variable {st : List Nat} {q : Qs} {O : Nat → Prop} {h m : Nat}
theorem KS.lt (s : KS w B a st q O) : ∀ k, O k → B ≤ k ∧ k < w.heap.size := by
  obtain ⟨b, u, d, xs, k, g, e1, e2, rfl⟩ := s.ex
  exact k.lt
theorem KS.noI (s : KS w B a st q O) : NoI w O := by
  obtain ⟨b, u, d, xs, k, g, e1, e2, rfl⟩ := s.ex
  exact k.noI
theorem KS.keep (s : KS w B a st q O) (hk : Kept w w' []) : KS w' B a st q O := by
  obtain ⟨b, u, d, xs, k, g, e1, e2, rfl⟩ := s.ex
  exact ⟨b, u, d, xs, k.keep hk, g.keep hk, e1, e2, rfl⟩
theorem KS.fo (s : KS w B a st q O) {P : Nat → Prop} (hf : Fo P w w') (hd : ∀ k, O k → ¬ P k) (hn : NoI w P) (ht : NoT w P mts) (hm : NoM w P) : KS w' B a st q O := by
  obtain ⟨b, u, d, xs, k, g, e1, e2, rfl⟩ := s.ex
  exact ⟨b, u, d, xs, k.fo hf hd hn, g.fo hf ht hm, e1, e2, rfl⟩
theorem Kq.mg (k : Kq w B a d l c xs cs rs) {C : Nat} (f : Fm C mts w w') : Kq w' B a d l c xs cs rs := k.fm f (by decide) (by decide)
theorem KS.cells (s : KS w B a st q O) : (w.cell? ⟨a.h, 0, none⟩ = some (.pointer (some ⟨a.p, 0, none⟩)) ∧ w.cell? ⟨a.h, 1, none⟩ = some (.pointer (some ⟨a.hs, 0, none⟩)) ∧ w.cell? ⟨a.h, 2, none⟩ = some (.pointer (some ⟨a.ht, 0, none⟩)) ∧ w.cell? ⟨a.h, 3, none⟩ = some (.pointer (some ⟨a.hc, 0, none⟩)) ∧ w.cell? ⟨a.h, 4, none⟩ = some (.pointer (some ⟨a.hr, 0, none⟩))) ∧ w.cell? ⟨a.h, 5, none⟩ = some (.int .i64 q.nx) ∧ w.frozen? ⟨a.h, 5, none⟩ = false := by
  obtain ⟨b, u, d, xs, k, g, e1, e2, rfl⟩ := s.ex
  rw [← e2]
  exact ⟨⟨(k.cell (i := 0) rfl).1, (k.cell (i := 1) rfl).1, (k.cell (i := 2) rfl).1, (k.cell (i := 3) rfl).1, (k.cell (i := 4) rfl).1⟩, (k.cell (i := 5) rfl).1, (k.cell (i := 5) rfl).2⟩
theorem KS.man (s : KS w B a st q O) : Man w (.pointer (some ⟨a.p, 0, none⟩)) st := by
  obtain ⟨b, u, d, xs, k, g, e1, e2, rfl⟩ := s.ex
  exact g.man

end Go.Proofs.YticiofkiffgclaaGreat

namespace Go.Proofs.YticiofkiffgclaaGreat
set_option linter.unusedVariables false
open Go.RowKit

variable {w w' : World} {B : Nat} {a : Hk} {st : List Nat} {q : Qs} {O : Nat → Prop}

set_option maxHeartbeats 1000000 in
theorem kspools_any (s : KS w B a st q O) : Calls Tryz.prog 26 #[.pointer (some ⟨a.h, 0, none⟩)] w fun e w' => e = .returned (.pointer (some ⟨a.hs, 0, none⟩)) ∧ w' = w := by
  obtain ⟨⟨c0, c1, c2, c3, c4⟩, c5, c6⟩ := s.cells
  clear s
  go_enter Tryz.func26, Tryz.ntmps26
  go_wp2
  go_ret
  exact ⟨rfl, rfl⟩
set_option maxHeartbeats 1000000 in
theorem kticks_any (s : KS w B a st q O) : Calls Tryz.prog 39 #[.pointer (some ⟨a.h, 0, none⟩)] w fun e w' => e = .returned (.pointer (some ⟨a.ht, 0, none⟩)) ∧ w' = w := by
  obtain ⟨⟨c0, c1, c2, c3, c4⟩, c5, c6⟩ := s.cells
  clear s
  go_enter Tryz.func39, Tryz.ntmps39
  go_wp2
  go_ret
  exact ⟨rfl, rfl⟩
set_option maxHeartbeats 1000000 in
theorem kcursors_any (s : KS w B a st q O) : Calls Tryz.prog 37 #[.pointer (some ⟨a.h, 0, none⟩)] w fun e w' => e = .returned (.pointer (some ⟨a.hc, 0, none⟩)) ∧ w' = w := by
  obtain ⟨⟨c0, c1, c2, c3, c4⟩, c5, c6⟩ := s.cells
  clear s
  go_enter Tryz.func37, Tryz.ntmps37
  go_wp2
  go_ret
  exact ⟨rfl, rfl⟩
set_option maxHeartbeats 1000000 in
theorem knid_any (s : KS w B a st q O) : Calls Tryz.prog 45 #[.pointer (some ⟨a.h, 0, none⟩)] w fun e w' => e = .returned (.int .i64 q.nx) ∧ w' = w := by
  obtain ⟨⟨c0, c1, c2, c3, c4⟩, c5, c6⟩ := s.cells
  clear s
  go_enter Tryz.func45, Tryz.ntmps45
  go_wp2
  go_ret
  exact ⟨rfl, rfl⟩
end Go.Proofs.YticiofkiffgclaaGreat
