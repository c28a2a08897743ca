/-
  Dqe, Dqf, Dqg, Zqa, Zqb in one text.
-/
import Derived.Test.YticiofkiffgclaaGreatQu28
import Derived.Test.YticiofkiffgclaaGreatQu24
import Derived.Test.YticiofkiffgclaaGreatQu9
import Derived.Test.YticiofkiffgclaaGreatQu4
import Derived.Test.YticiofkiffgclaaGreatQu19
import Derived.Test.YticiofkiffgclaaGreatRows
import Derived.Test.YticiofkiffgclaaGreatChecked
import Derived.ProofKit
import Derived.Deep.QuietTactic
import Derived.BigQuiet
set_option linter.unusedVariables false
set_option maxHeartbeats 16000000
set_option maxRecDepth 100000
namespace Go.Proofs.YticiofkiffgclaaGreat
open Go.RowKit Go.Maps
structure EvW (e : Ev) : Prop where
 tx : -100 <= e.tx /\ e.tx <= 100000
 tr : 0 <= e.tr /\ e.tr <= 2147483647
 id : -100000 <= e.id /\ e.id <= 100000
theorem EvW.wf {e : Ev} (h : EvW e) : (Lit.int .i64 e.tx).wf = true := wf_i64 (by have := h.tx; omega)
theorem EvW.tr0 {e : Ev} (h : EvW e) : -9223372036854775808 <= e.tr := by have := h.tr; omega
theorem trN_le {n : Int} (h : 0 <= n /\ n <= 2147483647) : 0 <= trN n /\ trN n <= 2147483647 := by unfold trN; split <;> omega
theorem EvW.addX {e : Ev} (h : EvW e) (ow : ByteArray) (at' : Int) : EvW (addX e ow at').e := ⟨h.tx, trN_le h.tr, h.id⟩
theorem EvW.setTx {e : Ev} (h : EvW e) {x : Int} (hx : -100 <= x /\ x <= 100000) : EvW (setTx x e) := ⟨hx, h.tr, h.id⟩
structure SzQ (k : Nat) (q : Qs) : Prop where
 ok : OkQ q
 oki : OkI q.rs
 len : lenN q.l <= 16 * k
 nx : 1 <= q.nx /\ q.nx <= (k : Int) + 1
 ev : ∀ e ∈ pre q.l 3, EvW e
 it : ∀ x ∈ q.rs, EvW x.e
 last : xqk q.ps <= k
theorem SzQ.mono {k k' : Nat} {q : Qs} (h : SzQ k q) (hk : k <= k') : SzQ k' q := ⟨h.ok, h.oki, by have := h.len; omega, by have := h.nx; omega, h.ev, h.it, by have := h.last; omega⟩
theorem SzQ.new : SzQ 0 Qs.new := ⟨OkQ.new, OkI.nil, by simp [lenN, Qs.new], by simp [Qs.new], by simp [Qs.new, pre], by simp [Qs.new], by simp [Qs.new, xqk]⟩
theorem lenN_ge (l : Nat -> List Ev) {i : Nat} (hi : i < 3) : (l i).length <= lenN l := by
 unfold lenN
 have : i = 0 ∨ i = 1 ∨ i = 2 := by omega
 rcases this with rfl | rfl | rfl <;> omega
theorem SzQ.table {k : Nat} {q : Qs} (h : SzQ k q) {i : Nat} (hi : i < 3) : (q.l i).length <= 16 * k := Nat.le_trans (lenN_ge q.l hi) h.len
theorem pre_lenN (l : Nat -> List Ev) : (pre l 3).length = lenN l := by simp [pre, lenN]; omega
theorem SzQ.all {k : Nat} {q : Qs} (h : SzQ k q) : (allE q).length <= 16 * k /\ ∀ e ∈ allE q, EvW e := by
 refine ⟨?_, fun e he => h.ev e (srtQ_mem.1 he)⟩
 unfold allE
 rw [xqs, pre_lenN]
 exact h.len
theorem SzQ.bat {k : Nat} {q : Qs} (h : SzQ k q) (st : List Nat) (n : ByteArray) : (batV st q n).length <= 16 * k /\ ∀ e ∈ batV st q n, EvW e := by
 unfold batV
 split
 ·simp
 split
 ·simp
 refine ⟨?_, fun e he => ?_⟩
 ·rw [xqs]
  exact Nat.le_trans (List.length_filter_le _ _) h.all.1
 rw [srtQ_mem, List.mem_filter] at he
 exact h.all.2 e he.1
theorem lenN_upd (l : Nat -> List Ev) {c : Nat} (hc : c < 3) (m : List Ev) : lenN (upd l c (l c ++ m)) = lenN l + m.length := by
 unfold lenN
 have : c = 0 ∨ c = 1 ∨ c = 2 := by omega
 rcases this with rfl | rfl | rfl
 ·simp [upd]; omega
 ·simp [upd]; omega
 simp [upd]; omega
theorem mem_upd {l : Nat -> List Ev} {c : Nat} {m : List Ev} {e : Ev} (h : e ∈ pre (upd l c (l c ++ m)) 3) : e ∈ pre l 3 ∨ e ∈ m := by
 obtain ⟨i, hi, hm⟩ := xq9.1 h
 by_cases hic : i = c
 ·subst hic
  rw [xqL] at hm
  rcases List.mem_append.1 hm with hm | hm
  ·exact .inl (xq9.2 ⟨i, hi, hm⟩)
  exact .inr hm
 rw [yqb _ _ hic] at hm
 exact .inl (xq9.2 ⟨i, hi, hm⟩)
theorem SzQ.wri {k : Nat} {q : Qs} (h : SzQ k q) (hk : k < 1000) {x : Int} (hx : -100 <= x /\ x <= 100000) (tb kd key : Int) (t : ByteArray) : SzQ (k + 1) (wriQ q x tb kd key t) /\ (wriQ q x tb kd key t).nx = q.nx + 1 := by
 have hw : wrap64 (q.nx + 1) = q.nx + 1 := by have := h.nx; unfold wrap64; omega
 have e1 : (wriQ q x tb kd key t).nx = q.nx + 1 := hw
 refine ⟨⟨h.ok.wri x tb kd key t, h.oki, ?_, by rw [e1]; have := h.nx; omega, ?_, h.it, by have := h.last; show xqk q.ps <= _; omega⟩, e1⟩
 ·show lenN (upd q.l q.c (q.l q.c ++ [wriV q x tb kd key t])) <= _
  rw [lenN_upd _ h.ok.c3]
  have := h.len
  simp only [List.length_singleton]
  omega
 intro e he
 rcases mem_upd he with he | he
 ·exact h.ev e he
 obtain rfl := List.mem_singleton.1 he
 have := h.nx
 exact ⟨hx, by show (0 : Int) <= 0 /\ (0 : Int) <= 2147483647; omega, by show -100000 <= q.nx /\ q.nx <= 100000; omega⟩
theorem SzQ.frg {k : Nat} {q : Qs} (h : SzQ k q) (x : Int) : SzQ k (frgQ q x) := by
 refine ⟨h.ok.frg x, h.oki, Nat.le_trans (lenN_le x q.l) h.len, h.nx, ?_, h.it, h.last⟩
 intro e he
 obtain ⟨i, hi, hm⟩ := xq9.1 he
 exact h.ev e (xq9.2 ⟨i, hi, (List.mem_filter.1 hm).1⟩)
theorem SzQ.tck {k : Nat} {q : Qs} (h : SzQ k q) {M : Int} {l : List Int} (now : Int) (hM : M <= 9223372036854775807) (hl : l.length <= 1000) : SzQ (k + 1) (tckQ q M l now) := by
 have h1 := h.len
 have h2 := h.nx
 have h3 := h.last
 refine ⟨h.ok.tck now hM hl, h.oki, by show lenN q.l <= _; omega, by show 1 <= q.nx /\ q.nx <= _; omega, h.ev, h.it, ?_⟩
 show xqk (addS q.ps M l now) <= _
 rw [lastN_add]
 split <;> omega
theorem SzQ.rgs {k : Nat} {q : Qs} (h : SzQ k q) (n : ByteArray) : SzQ k (rgsQ q n) := by
 have := h.ok.rgs n
 unfold rgsQ at this ⊢
 split
 ·exact h
 rename_i h0
 rw [if_neg h0] at this
 exact ⟨this, h.oki, h.len, h.nx, h.ev, h.it, h.last⟩
theorem SzQ.urg {k : Nat} {q : Qs} (h : SzQ k q) (n : ByteArray) : SzQ k (urgQ q n) := by
 refine ⟨h.ok.urg n, ?_, h.len, h.nx, h.ev, ?_, h.last⟩
 ·show OkI (if unrE q.cs n = 0 then drpI q.rs n else q.rs)
  split
  ·exact h.oki.drp n
  exact h.oki
 show ∀ x ∈ (if unrE q.cs n = 0 then drpI q.rs n else q.rs), EvW x.e
 split
 ·exact fun x hx => h.it x (List.mem_filter.1 hx).1
 exact h.it
theorem SzQ.nxt {k : Nat} {q : Qs} (h : SzQ k q) (n : ByteArray) : SzQ k (nxtQ q n) := by
 have := h.ok.nxt n
 unfold nxtQ at this ⊢
 cases ho : nxtO q n with
 | none => exact h
 | some p =>
 rw [ho] at this
 exact ⟨this, h.oki, h.len, h.nx, h.ev, h.it, h.last⟩
theorem SzQ.fns {k : Nat} {q : Qs} (h : SzQ k q) (n : ByteArray) : SzQ k (fnsQ q n) := ⟨h.ok.fns n, h.oki, h.len, h.nx, h.ev, h.it, h.last⟩
theorem agnO_mem {st : List Nat} {q : Qs} {n : ByteArray} {id : Int} {e : Ev} (h : agnO st q n id = some e) : e ∈ batV st q n /\ e.id = id := by
 unfold agnO at h
 exact ⟨List.mem_of_find?_eq_some h, by simpa using List.find?_some h⟩
theorem SzQ.rty {k : Nat} {q : Qs} (h : SzQ k q) (st : List Nat) (n : ByteArray) (id at' : Int) : SzQ k (rtyQ st q n id at') := by
 have ho := h.ok.rty st n id at'
 unfold rtyQ at ho ⊢
 split
 ·rename_i h0
  rw [if_pos h0] at ho
  cases ha : agnO st q n id with
  | none => exact h
  | some e =>
  rw [ha] at ho
  refine ⟨ho, h.oki.add e n at', h.len, h.nx, h.ev, ?_, h.last⟩
  exact adiL_all (P := fun x => EvW x.e) h.it (((h.bat st n).2 e (agnO_mem ha).1).addX n at')
 exact h
theorem mntV_len {k : Nat} {q : Qs} (h : SzQ k q) (x now : Int) : (mntV q x now).length <= 16 := by
 unfold mntV
 rw [List.length_map, xq6]
 exact Nat.le_trans (List.length_filter_le _ _) h.oki.few
theorem mntV_ev {k : Nat} {q : Qs} (h : SzQ k q) {x : Int} (hx : -100 <= x /\ x <= 100000) (now : Int) : ∀ e ∈ mntV q x now, EvW e := by
 intro e he
 unfold mntV evs at he
 obtain ⟨y, hy, rfl⟩ := List.mem_map.1 he
 obtain ⟨z, hz, rfl⟩ := List.mem_map.1 hy
 exact (h.it z (List.mem_filter.1 hz).1).setTx hx
theorem SzQ.mnt {k : Nat} {q : Qs} (h : SzQ k q) {x : Int} (hx : -100 <= x /\ x <= 100000) (now : Int) : SzQ (k + 1) (mntQ q x now) := by
 have h1 := h.len
 have h2 := h.nx
 have h3 := h.last
 refine ⟨h.ok.mnt x now, h.oki.lft now, ?_, by show 1 <= q.nx /\ q.nx <= _; omega, ?_, fun y hy => h.it y (List.mem_filter.1 hy).1, by show xqk q.ps <= _; omega⟩
 ·show lenN (upd q.l q.c (q.l q.c ++ mntV q x now)) <= _
  rw [lenN_upd _ h.ok.c3]
  have := mntV_len h x now
  omega
 intro e he
 rcases mem_upd he with he | he
 ·exact h.ev e he
 exact mntV_ev h hx now e he
theorem SzQ.rot {k : Nat} {q : Qs} (h : SzQ k q) (st : List Nat) : SzQ k (rotQ st q).2.2 := by
 refine ⟨h.ok.rot st, h.oki, ?_, h.nx, fun e he => h.ev e (rot_mem he), h.it, h.last⟩
 refine Nat.le_trans ?_ h.len
 show lenN (rotS q.l q.c (freQ st q)).2.2.1 <= _
 unfold rotS
 split
 ·exact Nat.le_refl _
 split
 ·show lenN (upd q.l (Go.Proofs.YticiofkiffgclaaGreat.nxt q.c) []) <= _
  unfold lenN
  have : ∀ i, (upd q.l (Go.Proofs.YticiofkiffgclaaGreat.nxt q.c) [] i).length <= (q.l i).length := by
   intro i
   unfold upd
   split
   ·simp
   exact Nat.le_refl _
  have a0 := this 0
  have a1 := this 1
  have a2 := this 2
  omega
 exact Nat.le_refl _
theorem SzQ.trm {k : Nat} {q : Qs} (h : SzQ k q) : SzQ k (trmQ q) := ⟨h.ok.trm, h.oki, h.len, h.nx, h.ev, h.it, by show xqk (xqM q.ps _) <= _; rw [yqD]; exact h.last⟩
theorem SzQ.rotK {k : Nat} {st : List Nat} {q : Qs} (h : SzQ k q) : ∀ n, SzQ k (rotK st n q)
 | 0 => h
 | n + 1 => (h.rotK n).rot st
def qa : ByteArray := ⟨#[97]⟩
def qb : ByteArray := ⟨#[98]⟩
theorem qa_list : qa.toList = [97] := by rw [ByteArray.toList_eq]; rfl
theorem qb_list : qb.toList = [98] := by rw [ByteArray.toList_eq]; rfl
variable (tb kd key : Int) (t : ByteArray)
def re1 : Ev := ⟨1, 1, ⟨#[]⟩, 0, tb, kd, key, t⟩
def re2 : Ev := ⟨1, 2, qa, 1, tb, kd, key, t⟩
def rIt (at' : Int) : It := ⟨at', ⟨1, 1, qa, 1, tb, kd, key, t⟩⟩
def pt1 : Pt := ⟨1, 1, [], 0⟩
def pt2 : Pt := ⟨2, 2, [], 0⟩
def pt3 (at' : Int) : Pt := ⟨3, 3, [], at'⟩
def tb1 : Nat -> List Ev := upd (fun _ => []) 0 [re1 tb kd key t]
def tb2 : Nat -> List Ev := upd (tb1 tb kd key t) 0 [re1 tb kd key t, re2 tb kd key t]
theorem qab : qa ≠ qb := fun h => by
 have := congrArg ByteArray.toList h
 rw [qa_list, qb_list] at this
 exact absurd this (by decide)
theorem isN_no {n : ByteArray} {x : Cu} (h : x.nm ≠ n) : isN n x = false := by
 cases hq : isN n x with
 | false => rfl
 | true => exact absurd (isN_iff.1 hq) h
theorem cB (a b c d : Int) : getC [⟨qa, a, b⟩, ⟨qb, c, d⟩] qb = some ⟨qb, c, d⟩ /\ plc [⟨qa, a, b⟩, ⟨qb, c, d⟩] qb = some 1 := by
 have h : isN qb ⟨qb, c, d⟩ = true := isN_iff.2 rfl
 have h2 : isN qb ⟨qa, a, b⟩ = false := isN_no qab
 constructor
 ·unfold getC
  rw [List.find?_cons, h2, List.find?_cons, h]
 refine plc_hit (x := ⟨qb, c, d⟩) rfl h ?_
 intro j y hj hy
 obtain rfl : j = 0 := by omega
 obtain rfl : (⟨qa, a, b⟩ : Cu) = y := by simpa using hy
 exact h2
def q5 : Qs := ⟨tb1 tb kd key t, 0, [pt1, pt2], [⟨qa, 1, 2⟩, ⟨qb, 1, 0⟩], [], 2⟩
def q6 (at' : Int) : Qs := ⟨tb1 tb kd key t, 0, [pt1, pt2], [⟨qa, 1, 2⟩, ⟨qb, 1, 0⟩], [rIt tb kd key t at'], 2⟩
def q7 (at' : Int) : Qs := ⟨tb1 tb kd key t, 0, [pt1, pt2], [⟨qa, 2, 0⟩, ⟨qb, 1, 0⟩], [rIt tb kd key t at'], 2⟩
def q8 : Qs := ⟨tb2 tb kd key t, 0, [pt1, pt2], [⟨qa, 2, 0⟩, ⟨qb, 1, 0⟩], [], 2⟩
def q9 (at' : Int) : Qs := ⟨tb2 tb kd key t, 0, [pt1, pt2, pt3 at'], [⟨qa, 2, 0⟩, ⟨qb, 1, 0⟩], [], 2⟩
def Off (ts : List TypeId) (w : World) : Nat -> Prop := fun k => ¬ ∃ c t f, w.heap[k]? = some (.cells c t f) /\ t ∉ ts
theorem Fm.fo {B : Nat} {ts : List TypeId} {w w' : World} (h : Fm B ts w w') : Fo (Off ts w) w w' :=
 ⟨h.os, h.tape, h.output, h.size, fun k hk hn => by
  obtain ⟨c, t, f, h1, h2⟩ := Classical.not_not.1 hn
  rw [h1]
  exact h.heap h1 h2⟩
theorem off_not {ts : List TypeId} {w : World} {k : Nat} {c : Array Value} {t : TypeId} {f : Nat × Nat} (h : w.heap[k]? = some (.cells c t f)) (ht : t ∉ ts) : ¬ Off ts w k := fun ho => ho ⟨c, t, f, h, ht⟩
theorem off_noI {ts : List TypeId} {w : World} (ht : 2 ∉ ts) : NoI w (Off ts w) := fun k hk c f h => off_not h ht hk
def NoT (w : World) (O : Nat -> Prop) (ts : List TypeId) : Prop := ∀ k, O k -> ∀ c t f, w.heap[k]? = some (.cells c t f) -> t ∉ ts
def NoM (w : World) (O : Nat -> Prop) : Prop := ∀ k, O k -> ∀ es c, w.heap[k]? ≠ some (.map es c)
theorem ownsRow_tag {w : World} {base e size n : Nat} {v : Value} {xs : List Value} (h : w.ownsRow base e size v n xs) {g : Nat} (hg : v.ownBlock = some g) : ∃ cur, w.heap[g]? = some (.cells cur e (0, 0)) := by
 rcases h.2 with ⟨h2, _⟩ | ⟨g', cap, cur, rfl, _, hc, _⟩
 ·rw [h2] at hg; cases hg
 obtain rfl : g' = g := by simpa [Value.ownBlock] using hg
 exact ⟨cur, hc⟩
theorem ownsMap_fo {H : Type} {P : Program} {k : TypeId} {R : Value -> Option (DataW H × List MemPlace)} {w w' : World} {b n : Nat} {O : Nat -> Prop} {D : DataW H} (h : w.ownsMap P k R b n D) (hf : Fo O w w') (hn : NoM w O) : w'.ownsMap P k R b n D := by
 obtain ⟨es, c, hb, r⟩ := h
 exact ⟨es, c, hf.heap (fun ho => hn b ho _ _ hb) hb, r⟩
theorem Rm.fo {w w' : World} {B q : Nat} {v : Value} {st : List Nat} {O : Nat -> Prop} (h : Rm w B q v st) (hf : Fo O w w') (hn : NoT w O rts) : Rm w' B q v st :=
 { h with
  hp := hf.heap (fun ho => hn q ho _ _ _ h.hp (by simp [rts])) h.hp
  hv := yqB h.hv hf fun g hg ho => by
   obtain ⟨cur, hc⟩ := ownsRow_tag h.hv hg
   exact hn g ho _ _ _ hc (by simp [rts]) }
theorem Mg.fo {w w' : World} {B p b : Nat} {v : Value} {st : List Nat} {O : Nat -> Prop} (h : Mg w B p b v st) (hf : Fo O w w') (hn : NoT w O mts) (hm : NoM w O) : Mg w' B p b v st :=
 { h with
  hp := hf.heap (fun ho => hn p ho _ _ _ h.hp (by simp [mts])) h.hp
  hm := ownsMap_fo h.hm hf hm
  hv := yqB h.hv hf fun g hg ho => by
   obtain ⟨cur, hc⟩ := ownsRow_tag h.hv hg
   exact hn g ho _ _ _ hc (by simp [mts]) }
variable {T : TypeId} {w w' : World} {B h : Nat} {d : Dv} {l : Nat -> List Ev} {xs : List Tk} {cs : List Cu} {rs : List It}
def qts (T : TypeId) : List TypeId := [T, 50, 38, 2, rcE, riE]
theorem Dq.kind (a : Dq T w B h d l xs cs rs) {k : Nat} (hk : xqI h d k) : ∃ c t f, w.heap[k]? = some (.cells c t f) /\ t ∈ qts T /\ t ≠ 2 := by
 rcases hk with hk | hk | hk | hk
 ·obtain ⟨c, t, f, h1, ht⟩ := a.types.1 hk
  refine ⟨c, t, f, h1, ?_, ?_⟩
  ·rcases ht with rfl | rfl <;> simp [qts]
  rcases ht with rfl | rfl
  ·exact a.hT.2.2.1
  decide
 ·obtain ⟨c, h1⟩ := a.types.2.1 hk
  exact ⟨c, _, _, h1, by simp [qts], by decide⟩
 ·obtain ⟨c, h1⟩ := a.types.2.2.1 hk
  exact ⟨c, _, _, h1, by simp [qts], by decide⟩
 obtain ⟨c, h1⟩ := a.types.2.2.2 hk
 exact ⟨c, _, _, h1, by simp [qts], by decide⟩
theorem Dq.noT (a : Dq T w B h d l xs cs rs) {ts : List TypeId} (ht : ∀ t ∈ qts T, t ∉ ts) : NoT w (xqI h d) ts := by
 intro k hk c t f hc hm
 obtain ⟨c2, t2, f2, h1, h2, _⟩ := a.kind hk
 have e := xqA h1 hc
 rw [e] at h2
 exact ht t h2 hm
theorem Dq.noM (a : Dq T w B h d l xs cs rs) : NoM w (xqI h d) := by
 intro k hk es c hc
 obtain ⟨c2, t2, f2, h1, _, _⟩ := a.kind hk
 rw [h1] at hc
 cases hc
theorem Dq.fm (a : Dq T w B h d l xs cs rs) {C : Nat} {ts : List TypeId} (hf : Fm C ts w w') (ht : ∀ t ∈ qts T, t ∉ ts) : Dq T w' B h d l xs cs rs := by
 refine a.fo hf.fo (fun k hk ho => ?_) (off_noI (ht _ (by simp [qts])))
 obtain ⟨c, t, f, h1, h2, _⟩ := a.kind hk
 exact off_not h1 (ht t h2) ho
theorem Dq.fr (a : Dq T w B h d l xs cs rs) {C : Nat} {ts : List TypeId} (hf : Fr C ts w w') (ht : ∀ t ∈ qts T, t ∉ ts) : Dq T w' B h d l xs cs rs := a.fm (Fm.ofFr hf) ht
structure DqM (T : TypeId) (w : World) (B h q : Nat) (d : Dv) (v : Value) (st : List Nat) (l : Nat -> List Ev) (xs : List Tk) (cs : List Cu) (rs : List It) : Prop where
 dq : Dq T w B h d l xs cs rs
 rm : Rm w B q v st
 mp : d.mp = .pointer (some ⟨q, 0, none⟩)
 hT : T ∉ rts /\ T ∉ mts
theorem qts_rts {T : TypeId} (h : T ∉ rts) : ∀ t ∈ qts T, t ∉ rts := by
 intro t ht
 simp only [qts, List.mem_cons, List.not_mem_nil, or_false] at ht
 rcases ht with rfl | rfl | rfl | rfl | rfl | rfl
 ·exact h
 all_goals decide
theorem qts_mts {T : TypeId} (h : T ∉ mts) : ∀ t ∈ qts T, t ∉ mts := by
 intro t ht
 simp only [qts, List.mem_cons, List.not_mem_nil, or_false] at ht
 rcases ht with rfl | rfl | rfl | rfl | rfl | rfl
 ·exact h
 all_goals decide
variable {q : Nat} {v : Value} {st : List Nat}
theorem DqM.keep (a : DqM T w B h q d v st l xs cs rs) (hk : Kept w w' []) : DqM T w' B h q d v st l xs cs rs := ⟨a.dq.keep hk, a.rm.keep hk, a.mp, a.hT⟩
theorem DqM.fo (a : DqM T w B h q d v st l xs cs rs) {O : Nat -> Prop} (hf : Fo O w w') (hd : ∀ k, xqI h d k -> ¬ O k) (hn : NoI w O) (ht : NoT w O rts) : DqM T w' B h q d v st l xs cs rs :=
 ⟨a.dq.fo hf hd hn, a.rm.fo hf ht, a.mp, a.hT⟩
theorem DqM.step (a : DqM T w B h q d v st l xs cs rs) {d' : Dv} {l' : Nat -> List Ev} {xs' : List Tk} {cs' : List Cu} {rs' : List It} (b : Dq T w' B h d' l' xs' cs' rs') (s : Stp (xqI h d) (xqI h d') w w') (hm : d'.mp = d.mp) : DqM T w' B h q d' v st l' xs' cs' rs' :=
 ⟨b, a.rm.fo s.1 (a.dq.noT (qts_rts a.hT.1)), hm.trans a.mp, a.hT⟩
theorem DqM.man (a : DqM T w B h q d v st l xs cs rs) {v' : Value} {st' : List Nat} (b : Rm w' B q v' st') (f : Fr B rts w w') : DqM T w' B h q d v' st' l xs cs rs :=
 ⟨a.dq.fr f (qts_rts a.hT.1), b, a.mp, a.hT⟩
theorem DqM.mgr (a : DqM T w B h q d v st l xs cs rs) {C : Nat} (f : Fm C mts w w') : DqM T w' B h q d v st l xs cs rs :=
 ⟨a.dq.fm f (qts_mts a.hT.2), a.rm.frame f (by decide) (by decide), a.mp, a.hT⟩
theorem mg_rts {C D p b : Nat} {u : Value} {st2 : List Nat} (m : Mg w C p b u st2) (f : Fr D rts w w') : Mg w' C p b u st2 := m.frame f (by decide) (by decide)
abbrev quT : TypeId := 122
abbrev rqT : TypeId := 83
structure Hk where
 h : Nat
 p : Nat
 hs : Nat
 ht : Nat
 hc : Nat
 hr : Nat
structure Kv where
 V : Nat -> Value
 VT : Value
 VC : Value
 VR : Value
 nx : Value
def kR (a : Hk) (d : Kv) : Array Value := #[.pointer (some ⟨a.p, 0, none⟩), .pointer (some ⟨a.hs, 0, none⟩), .pointer (some ⟨a.ht, 0, none⟩), .pointer (some ⟨a.hc, 0, none⟩), .pointer (some ⟨a.hr, 0, none⟩), d.nx]
def xqR (a : Hk) (d : Kv) : Nat -> Prop := fun k => k = a.h ∨ xqy a.hs d.V k ∨ xqx a.ht d.VT k ∨ cfoot a.hc d.VC k ∨ xqJ a.hr d.VR k
structure Kq (w : World) (B : Nat) (a : Hk) (d : Kv) (l : Nat -> List Ev) (c : Nat) (xs : List Tk) (cs : List Cu) (rs : List It) : Prop where
 hh : w.heap[a.h]? = some (.cells (kR a d) quT (0, 0))
 bh : B <= a.h
 sp : Sp spT w B a.hs d.V l c
 ds : Dst d.V
 tk : Tc tkT [] w B a.ht d.VT xs
 cu : Cc cuT cuE w B a.hc d.VC cs
 rt : Ls encIt rtT rtE w B a.hr d.VR rs
variable {w w' : World} {B : Nat} {a : Hk} {d : Kv} {l : Nat -> List Ev} {c : Nat} {xs : List Tk} {cs : List Cu} {rs : List It}
theorem Kq.tyS (q : Kq w B a d l c xs cs rs) {k : Nat} (hk : xqy a.hs d.V k) : ∃ x t f, w.heap[k]? = some (.cells x t f) /\ t ∈ [spT, evT] := by
 rcases hk with rfl | ⟨i, hi, hk⟩
 ·exact ⟨_, _, _, q.sp.hh, by simp⟩
 obtain ⟨x, hx⟩ := (q.sp.own i hi).tag hk
 exact ⟨_, _, _, hx, by simp⟩
theorem Kq.tyT (q : Kq w B a d l c xs cs rs) {k : Nat} (hk : xqx a.ht d.VT k) : ∃ x t f, w.heap[k]? = some (.cells x t f) /\ t ∈ [tkT, 38] := by
 rcases hk with rfl | hk
 ·exact ⟨_, _, _, q.tk.hh, by simp⟩
 obtain ⟨x, hx⟩ := q.tk.own.tag hk
 exact ⟨_, _, _, hx, by simp⟩
theorem Kq.tyC (q : Kq w B a d l c xs cs rs) {k : Nat} (hk : cfoot a.hc d.VC k) : ∃ x t f, w.heap[k]? = some (.cells x t f) /\ t ∈ [cuT, cuE] := by
 rcases hk with rfl | hk
 ·exact ⟨_, _, _, q.cu.hh, by simp⟩
 obtain ⟨x, hx⟩ := q.cu.own.tag hk
 exact ⟨_, _, _, hx, by simp⟩
theorem Kq.tyR (q : Kq w B a d l c xs cs rs) {k : Nat} (hk : xqJ a.hr d.VR k) : ∃ x t f, w.heap[k]? = some (.cells x t f) /\ t ∈ [rtT, rtE] := by
 rcases hk with rfl | hk
 ·exact ⟨_, _, _, q.rt.hh, by simp⟩
 obtain ⟨x, hx⟩ := q.rt.own.tag hk
 exact ⟨_, _, _, hx, by simp⟩
def kts : List TypeId := [quT, spT, evT, tkT, 38, cuT, cuE, rtT, rtE]
theorem two_tags {w : World} {k : Nat} {c1 c2 : Array Value} {t1 t2 : TypeId} {f1 f2 : Nat × Nat} {A C : List TypeId} (x : w.heap[k]? = some (.cells c1 t1 f1)) (hx : t1 ∈ A) (y : w.heap[k]? = some (.cells c2 t2 f2)) (hy : t2 ∈ C) (h : ∀ t ∈ A, t ∉ C) : False := by
 have := xqA x y
 subst this
 exact h _ hx hy
theorem Kq.kind (q : Kq w B a d l c xs cs rs) {k : Nat} (hk : xqR a d k) : ∃ x t f, w.heap[k]? = some (.cells x t f) /\ t ∈ kts := by
 rcases hk with rfl | hk | hk | hk | hk
 ·exact ⟨_, _, _, q.hh, by simp [kts]⟩
 ·obtain ⟨x, t, f, h1, h2⟩ := q.tyS hk
  exact ⟨x, t, f, h1, (by decide : ∀ t ∈ [spT, evT], t ∈ kts) t h2⟩
 ·obtain ⟨x, t, f, h1, h2⟩ := q.tyT hk
  exact ⟨x, t, f, h1, (by decide : ∀ t ∈ [tkT, 38], t ∈ kts) t h2⟩
 ·obtain ⟨x, t, f, h1, h2⟩ := q.tyC hk
  exact ⟨x, t, f, h1, (by decide : ∀ t ∈ [cuT, cuE], t ∈ kts) t h2⟩
 obtain ⟨x, t, f, h1, h2⟩ := q.tyR hk
 exact ⟨x, t, f, h1, (by decide : ∀ t ∈ [rtT, rtE], t ∈ kts) t h2⟩
theorem Kq.lt (q : Kq w B a d l c xs cs rs) : ∀ k, xqR a d k -> B <= k /\ k < w.heap.size := by
 rintro k (rfl | hk | hk | hk | hk)
 ·exact ⟨q.bh, xqh q.hh⟩
 ·exact q.sp.lt k hk
 ·exact q.tk.lt k hk
 ·exact q.cu.lt k hk
 exact q.rt.lt k hk
theorem Kq.noT (q : Kq w B a d l c xs cs rs) {ts : List TypeId} (ht : ∀ t ∈ kts, t ∉ ts) : NoT w (xqR a d) ts := by
 intro k hk x t f hc hm
 obtain ⟨x2, t2, f2, h1, h2⟩ := q.kind hk
 exact two_tags h1 h2 hc hm ht
theorem Kq.noI (q : Kq w B a d l c xs cs rs) : NoI w (xqR a d) := fun k hk x f hc => q.noT (ts := [2]) (by decide) k hk x _ f hc (by simp)
theorem Kq.noM (q : Kq w B a d l c xs cs rs) : NoM w (xqR a d) := by
 intro k hk es x hc
 obtain ⟨x2, t2, f2, h1, h2⟩ := q.kind hk
 rw [h1] at hc
 cases hc
theorem Kq.fo (q : Kq w B a d l c xs cs rs) {O : Nat -> Prop} (hf : Fo O w w') (hd : ∀ k, xqR a d k -> ¬ O k) (hn : NoI w O) : Kq w' B a d l c xs cs rs :=
 ⟨hf.heap (hd _ (.inl rfl)) q.hh, q.bh, q.sp.fo hf (fun k hk => hd k (.inr (.inl hk))), q.ds, q.tk.fo hf (fun k hk => hd k (.inr (.inr (.inl hk)))) hn, q.cu.fo hf (fun k hk => hd k (.inr (.inr (.inr (.inl hk))))), q.rt.fo hf (fun k hk => hd k (.inr (.inr (.inr (.inr hk)))))⟩
theorem Kq.keep (q : Kq w B a d l c xs cs rs) (hk : Kept w w' []) : Kq w' B a d l c xs cs rs := q.fo (Fo.ofKept hk (fun _ => False)) (fun _ _ h => h) (NoI.none w)
theorem Kq.fm (q : Kq w B a d l c xs cs rs) {C : Nat} {ts : List TypeId} (hf : Fm C ts w w') (ht : ∀ t ∈ kts, t ∉ ts) (hi : 2 ∉ ts) : Kq w' B a d l c xs cs rs := by
 refine q.fo hf.fo (fun k hk ho => ?_) (off_noI hi)
 obtain ⟨c, t, f, h1, h2⟩ := q.kind hk
 exact off_not h1 (ht t h2) ho
theorem Kq.cell (q : Kq w B a d l c xs cs rs) {i : Nat} {v : Value} (hv : (kR a d)[i]? = some v) : w.cell? ⟨a.h, i, none⟩ = some v /\ w.frozen? ⟨a.h, i, none⟩ = false :=
 ⟨by
   have e : (kR a d) = (kR a d).toList.toArray := rfl
   have hh := q.hh
   rw [e] at hh
   rw [cell_of_row _ _ _ _ _ _ hh]; simpa using hv, by
   have e : (kR a d) = (kR a d).toList.toArray := rfl
   have hh := q.hh
   rw [e] at hh
   exact frozen_of_row _ _ _ _ _ hh⟩
theorem not_h {w : World} {k h : Nat} {x : Array Value} {T : TypeId} {f : Nat × Nat} (hh : w.heap[h]? = some (.cells x T f)) {C : List TypeId} (hT : T ∉ C) (y : ∃ x t f, w.heap[k]? = some (.cells x t f) /\ t ∈ C) : k ≠ h := by
 rintro rfl
 obtain ⟨x2, t2, f2, h1, h2⟩ := y
 rw [xqA hh h1] at hT
 exact hT h2
theorem dis2 {w : World} {k : Nat} {A C : List TypeId} (x : ∃ x t f, w.heap[k]? = some (.cells x t f) /\ t ∈ A) (y : ∃ x t f, w.heap[k]? = some (.cells x t f) /\ t ∈ C) (h : ∀ t ∈ A, t ∉ C) : False := by
 obtain ⟨x1, t1, f1, h1, h2⟩ := x
 obtain ⟨x2, t2, f2, h3, h4⟩ := y
 exact two_tags h1 h2 h3 h4 h
theorem Kq.ofSpools (q : Kq w B a d l c xs cs rs) {V' : Nat -> Value} {l' : Nat -> List Ev} {c' : Nat} (s : Sp spT w' B a.hs V' l' c') (hd : Dst V') (st : Stp (xqy a.hs d.V) (xqy a.hs V') w w') :
  Kq w' B a { d with V := V' } l' c' xs cs rs /\ Stp (xqR a d) (xqR a { d with V := V' }) w w' := by
 have hf := st.1
 have hn : NoI w (xqy a.hs d.V) := fun k hk => q.noI k (.inr (.inl hk))
 refine ⟨⟨hf.heap (fun hk => not_h q.hh (by decide) (q.tyS hk) rfl) q.hh, q.bh, s, hd, q.tk.fo hf (fun k hk ho => dis2 (q.tyT hk) (q.tyS ho) (by decide)) hn, q.cu.fo hf (fun k hk ho => dis2 (q.tyC hk) (q.tyS ho) (by decide)), q.rt.fo hf (fun k hk ho => dis2 (q.tyR hk) (q.tyS ho) (by decide))⟩, hf.mono (fun k hk => .inr (.inl hk)), ?_⟩
 rintro k (hk | hk | hk)
 ·exact .inl (.inl hk)
 ·exact (st.2 k hk).imp (fun h => .inr (.inl h)) id
 ·exact .inl (.inr (.inr hk))
theorem Kq.ofTicks (q : Kq w B a d l c xs cs rs) {VT' : Value} {xs' : List Tk} (s : Tc tkT [] w' B a.ht VT' xs') (st : Stp (xqx a.ht d.VT) (xqx a.ht VT') w w') :
  Kq w' B a { d with VT := VT' } l c xs' cs rs /\ Stp (xqR a d) (xqR a { d with VT := VT' }) w w' := by
 have hf := st.1
 refine ⟨⟨hf.heap (fun hk => not_h q.hh (by decide) (q.tyT hk) rfl) q.hh, q.bh, q.sp.fo hf (fun k hk ho => dis2 (q.tyS hk) (q.tyT ho) (by decide)), q.ds, s, q.cu.fo hf (fun k hk ho => dis2 (q.tyC hk) (q.tyT ho) (by decide)), q.rt.fo hf (fun k hk ho => dis2 (q.tyR hk) (q.tyT ho) (by decide))⟩, hf.mono (fun k hk => .inr (.inr (.inl hk))), ?_⟩
 rintro k (hk | hk | hk | hk)
 ·exact .inl (.inl hk)
 ·exact .inl (.inr (.inl hk))
 ·exact (st.2 k hk).imp (fun h => .inr (.inr (.inl h))) id
 ·exact .inl (.inr (.inr (.inr hk)))
theorem Kq.ofCursors (q : Kq w B a d l c xs cs rs) {VC' : Value} {cs' : List Cu} (s : Cc cuT cuE w' B a.hc VC' cs') (st : Stp (cfoot a.hc d.VC) (cfoot a.hc VC') w w') :
  Kq w' B a { d with VC := VC' } l c xs cs' rs /\ Stp (xqR a d) (xqR a { d with VC := VC' }) w w' := by
 have hf := st.1
 have hn : NoI w (cfoot a.hc d.VC) := fun k hk => q.noI k (.inr (.inr (.inr (.inl hk))))
 refine ⟨⟨hf.heap (fun hk => not_h q.hh (by decide) (q.tyC hk) rfl) q.hh, q.bh, q.sp.fo hf (fun k hk ho => dis2 (q.tyS hk) (q.tyC ho) (by decide)), q.ds, q.tk.fo hf (fun k hk ho => dis2 (q.tyT hk) (q.tyC ho) (by decide)) hn, s, q.rt.fo hf (fun k hk ho => dis2 (q.tyR hk) (q.tyC ho) (by decide))⟩, hf.mono (fun k hk => .inr (.inr (.inr (.inl hk)))), ?_⟩
 rintro k (hk | hk | hk | hk | hk)
 ·exact .inl (.inl hk)
 ·exact .inl (.inr (.inl hk))
 ·exact .inl (.inr (.inr (.inl hk)))
 ·exact (st.2 k hk).imp (fun h => .inr (.inr (.inr (.inl h)))) id
 ·exact .inl (.inr (.inr (.inr (.inr hk))))
theorem Kq.ofRetries (q : Kq w B a d l c xs cs rs) {VR' : Value} {rs' : List It} (s : Ls encIt rtT rtE w' B a.hr VR' rs') (st : Stp (xqJ a.hr d.VR) (xqJ a.hr VR') w w') :
  Kq w' B a { d with VR := VR' } l c xs cs rs' /\ Stp (xqR a d) (xqR a { d with VR := VR' }) w w' := by
 have hf := st.1
 have hn : NoI w (xqJ a.hr d.VR) := fun k hk => q.noI k (.inr (.inr (.inr (.inr hk))))
 refine ⟨⟨hf.heap (fun hk => not_h q.hh (by decide) (q.tyR hk) rfl) q.hh, q.bh, q.sp.fo hf (fun k hk ho => dis2 (q.tyS hk) (q.tyR ho) (by decide)), q.ds, q.tk.fo hf (fun k hk ho => dis2 (q.tyT hk) (q.tyR ho) (by decide)) hn, q.cu.fo hf (fun k hk ho => dis2 (q.tyC hk) (q.tyR ho) (by decide)), s⟩, hf.mono (fun k hk => .inr (.inr (.inr (.inr hk)))), ?_⟩
 rintro k (hk | hk | hk | hk | hk)
 ·exact .inl (.inl hk)
 ·exact .inl (.inr (.inl hk))
 ·exact .inl (.inr (.inr (.inl hk)))
 ·exact .inl (.inr (.inr (.inr (.inl hk))))
 ·exact (st.2 k hk).imp (fun h => .inr (.inr (.inr (.inr h)))) id
theorem Kq.setNext (q : Kq w B a d l c xs cs rs) (v : Value) : Kq (w.setCell ⟨a.h, 5, none⟩ v) B a { d with nx := v } l c xs cs rs /\ Stp (xqR a d) (xqR a { d with nx := v }) w (w.setCell ⟨a.h, 5, none⟩ v) := by
 have hf : Fo (fun k => k = a.h) w (w.setCell ⟨a.h, 5, none⟩ v) := Fo.setCell (O := fun k => k = a.h) (Fo.refl _ w) (p := ⟨a.h, 5, none⟩) (.inl rfl) v
 have hn : NoI w (fun k => k = a.h) := fun k hk => q.noI k (.inl hk)
 refine ⟨⟨by rw [xqb q.hh]; rfl, q.bh, q.sp.fo hf (fun k hk e => not_h q.hh (by decide) (q.tyS hk) e), q.ds, q.tk.fo hf (fun k hk e => not_h q.hh (by decide) (q.tyT hk) e) hn, q.cu.fo hf (fun k hk e => not_h q.hh (by decide) (q.tyC hk) e), q.rt.fo hf (fun k hk e => not_h q.hh (by decide) (q.tyR hk) e)⟩, hf.mono (fun k hk => .inl hk), fun k hk => .inl hk⟩
structure KS (w : World) (B : Nat) (a : Hk) (st : List Nat) (q : Qs) (O : Nat -> Prop) : Prop where
 ex : ∃ (b : Nat) (u : Value) (d : Kv) (xs : List Tk), Kq w B a d q.l q.c xs q.cs q.rs /\ Mg w B a.p b u st /\ xs.map Tk.pl = q.ps /\ d.nx = .int .i64 q.nx /\ O = xqR a d
structure DS (w : World) (B h m : Nat) (st : List Nat) (q : Qs) (O : Nat -> Prop) : Prop where
 ex : ∃ (d : Dv) (v : Value) (xs : List Tk), DqM rqT w B h m d v st q.l xs q.cs q.rs /\ d.c = q.c /\ xs.map Tk.pl = q.ps /\ d.u = .int .i64 (xqk q.ps) /\ d.nx = .int .i64 q.nx /\ O = xqI h d
variable {st : List Nat} {q : Qs} {O : Nat -> Prop} {h m : Nat}
theorem KS.lt (s : KS w B a st q O) : ∀ k, O k -> B <= k /\ k < w.heap.size := by
 obtain ⟨b, u, d, xs, k, g, e1, e2, rfl⟩ := s.ex
 exact k.lt
theorem KS.noI (s : KS w B a st q O) : NoI w O := by
 obtain ⟨b, u, d, xs, k, g, e1, e2, rfl⟩ := s.ex
 exact k.noI
theorem KS.noT (s : KS w B a st q O) {ts : List TypeId} (ht : ∀ t ∈ kts, t ∉ ts) : NoT w O ts := by
 obtain ⟨b, u, d, xs, k, g, e1, e2, rfl⟩ := s.ex
 exact k.noT ht
theorem KS.keep (s : KS w B a st q O) (hk : Kept w w' []) : KS w' B a st q O := by
 obtain ⟨b, u, d, xs, k, g, e1, e2, rfl⟩ := s.ex
 exact ⟨b, u, d, xs, k.keep hk, g.keep hk, e1, e2, rfl⟩
theorem KS.fo (s : KS w B a st q O) {P : Nat -> Prop} (hf : Fo P w w') (hd : ∀ k, O k -> ¬ P k) (hn : NoI w P) (ht : NoT w P mts) (hm : NoM w P) : KS w' B a st q O := by
 obtain ⟨b, u, d, xs, k, g, e1, e2, rfl⟩ := s.ex
 exact ⟨b, u, d, xs, k.fo hf hd hn, g.fo hf ht hm, e1, e2, rfl⟩
theorem KS.rmg (s : KS w B a st q O) {C : Nat} (f : Fr C rts w w') : KS w' B a st q O := by
 obtain ⟨b, u, d, xs, k, g, e1, e2, rfl⟩ := s.ex
 exact ⟨b, u, d, xs, k.fm (Fm.ofFr f) (by decide) (by decide), mg_rts g f, e1, e2, rfl⟩
theorem Kq.mg (k : Kq w B a d l c xs cs rs) {C : Nat} (f : Fm C mts w w') : Kq w' B a d l c xs cs rs := k.fm f (by decide) (by decide)
theorem KS.cells (s : KS w B a st q O) : (w.cell? ⟨a.h, 0, none⟩ = some (.pointer (some ⟨a.p, 0, none⟩)) /\ w.cell? ⟨a.h, 1, none⟩ = some (.pointer (some ⟨a.hs, 0, none⟩)) /\ w.cell? ⟨a.h, 2, none⟩ = some (.pointer (some ⟨a.ht, 0, none⟩)) /\ w.cell? ⟨a.h, 3, none⟩ = some (.pointer (some ⟨a.hc, 0, none⟩)) /\ w.cell? ⟨a.h, 4, none⟩ = some (.pointer (some ⟨a.hr, 0, none⟩))) /\ w.cell? ⟨a.h, 5, none⟩ = some (.int .i64 q.nx) /\ w.frozen? ⟨a.h, 5, none⟩ = false := by
 obtain ⟨b, u, d, xs, k, g, e1, e2, rfl⟩ := s.ex
 rw [<- e2]
 exact ⟨⟨(k.cell (i := 0) rfl).1, (k.cell (i := 1) rfl).1, (k.cell (i := 2) rfl).1, (k.cell (i := 3) rfl).1, (k.cell (i := 4) rfl).1⟩, (k.cell (i := 5) rfl).1, (k.cell (i := 5) rfl).2⟩
theorem KS.man (s : KS w B a st q O) : Man w (.pointer (some ⟨a.p, 0, none⟩)) st := by
 obtain ⟨b, u, d, xs, k, g, e1, e2, rfl⟩ := s.ex
 exact g.man
theorem DS.lt (s : DS w B h m st q O) : ∀ k, O k -> B <= k /\ k < w.heap.size := by
 obtain ⟨d, v, xs, k, e1, e2, e3, e4, rfl⟩ := s.ex
 exact k.dq.lt
theorem DS.noI (s : DS w B h m st q O) : NoI w O := by
 obtain ⟨d, v, xs, k, e1, e2, e3, e4, rfl⟩ := s.ex
 exact k.dq.noI
theorem DS.noTm (s : DS w B h m st q O) : NoT w O mts := by
 obtain ⟨d, v, xs, k, e1, e2, e3, e4, rfl⟩ := s.ex
 exact k.dq.noT (qts_mts k.hT.2)
theorem DS.noM (s : DS w B h m st q O) : NoM w O := by
 obtain ⟨d, v, xs, k, e1, e2, e3, e4, rfl⟩ := s.ex
 exact k.dq.noM
theorem DS.keep (s : DS w B h m st q O) (hk : Kept w w' []) : DS w' B h m st q O := by
 obtain ⟨d, v, xs, k, e1, e2, e3, e4, rfl⟩ := s.ex
 exact ⟨d, v, xs, k.keep hk, e1, e2, e3, e4, rfl⟩
theorem DS.fo (s : DS w B h m st q O) {P : Nat -> Prop} (hf : Fo P w w') (hd : ∀ k, O k -> ¬ P k) (hn : NoI w P) (ht : NoT w P rts) : DS w' B h m st q O := by
 obtain ⟨d, v, xs, k, e1, e2, e3, e4, rfl⟩ := s.ex
 exact ⟨d, v, xs, k.fo hf hd hn ht, e1, e2, e3, e4, rfl⟩
theorem DS.mgr (s : DS w B h m st q O) {C : Nat} (f : Fm C mts w w') : DS w' B h m st q O := by
 obtain ⟨d, v, xs, k, e1, e2, e3, e4, rfl⟩ := s.ex
 exact ⟨d, v, xs, k.mgr f, e1, e2, e3, e4, rfl⟩
theorem DS.rman (s : DS w B h m st q O) : RMan w (.pointer (some ⟨m, 0, none⟩)) st := by
 obtain ⟨d, v, xs, k, e1, e2, e3, e4, rfl⟩ := s.ex
 exact k.rm.man
theorem DS.cells (s : DS w B h m st q O) : w.cell? ⟨h, 0, none⟩ = some (.pointer (some ⟨m, 0, none⟩)) /\ w.cell? ⟨h, 4, none⟩ = some (.int .i64 q.c) /\ w.cell? ⟨h, 6, none⟩ = some (.int .i64 (xqk q.ps)) /\ w.cell? ⟨h, 9, none⟩ = some (.int .i64 q.nx) /\ w.frozen? ⟨h, 9, none⟩ = false := by
 obtain ⟨d, v, xs, k, e1, e2, e3, e4, rfl⟩ := s.ex
 rw [<- e4, <- e3, <- e1, <- k.mp]
 exact ⟨(k.dq.cell (i := 0) rfl).1, (k.dq.cell (i := 4) rfl).1, (k.dq.cell (i := 6) rfl).1, (k.dq.cell (i := 9) rfl).1, (k.dq.cell (i := 9) rfl).2⟩
theorem DS.code (s : DS w B h m st q O) {st1 : List Nat} {q1 : Qs} {O1 O2 : Nat -> Prop} (k : KS w B a st1 q1 O1) (hd : ∀ k, O1 k -> ¬ O k) (t : Stp O1 O2 w w') : DS w' B h m st q O /\ ∀ k, O2 k -> ¬ O k :=
 ⟨s.fo t.1 (fun j h1 h2 => hd j h2 h1) k.noI (k.noT (by decide)), fun j h1 h2 => (t.2 j h1).elim (fun h3 => hd j h3 h2) (fun h3 => by have := (s.lt j h2).2; omega)⟩
theorem KS.doc (k : KS w B a st q O) {st1 : List Nat} {q1 : Qs} {O1 O2 : Nat -> Prop} (s : DS w B h m st1 q1 O1) (hd : ∀ k, O k -> ¬ O1 k) (t : Stp O1 O2 w w') : KS w' B a st q O /\ ∀ k, O k -> ¬ O2 k :=
 ⟨k.fo t.1 hd s.noI s.noTm s.noM, fun j h1 h2 => (t.2 j h2).elim (fun h3 => hd j h1 h3) (fun h3 => by have := (k.lt j h1).2; omega)⟩
end Go.Proofs.YticiofkiffgclaaGreat
namespace Go.Proofs.YticiofkiffgclaaGreat
open Go.RowKit
variable {w w' : World} {B : Nat} {a : Hk} {st : List Nat} {q : Qs} {O : Nat -> Prop}
theorem yqM (s : KS w B a st q O) : Calls Tryz.prog 26 #[.pointer (some ⟨a.h, 0, none⟩)] w fun e w' => e = .returned (.pointer (some ⟨a.hs, 0, none⟩)) /\ w' = w := by
 obtain ⟨⟨c0, c1, c2, c3, c4⟩, c5, c6⟩ := s.cells
 clear s
 go_enter Tryz.func26, Tryz.ntmps26
 go_wp2
 go_ret
 exact ⟨rfl, rfl⟩
theorem yqn (s : KS w B a st q O) : Calls Tryz.prog 39 #[.pointer (some ⟨a.h, 0, none⟩)] w fun e w' => e = .returned (.pointer (some ⟨a.ht, 0, none⟩)) /\ w' = w := by
 obtain ⟨⟨c0, c1, c2, c3, c4⟩, c5, c6⟩ := s.cells
 clear s
 go_enter Tryz.func39, Tryz.ntmps39
 go_wp2
 go_ret
 exact ⟨rfl, rfl⟩
theorem xqP (s : KS w B a st q O) : Calls Tryz.prog 37 #[.pointer (some ⟨a.h, 0, none⟩)] w fun e w' => e = .returned (.pointer (some ⟨a.hc, 0, none⟩)) /\ w' = w := by
 obtain ⟨⟨c0, c1, c2, c3, c4⟩, c5, c6⟩ := s.cells
 clear s
 go_enter Tryz.func37, Tryz.ntmps37
 go_wp2
 go_ret
 exact ⟨rfl, rfl⟩
theorem kretries_any (s : KS w B a st q O) : Calls Tryz.prog 46 #[.pointer (some ⟨a.h, 0, none⟩)] w fun e w' => e = .returned (.pointer (some ⟨a.hr, 0, none⟩)) /\ w' = w := by
 obtain ⟨⟨c0, c1, c2, c3, c4⟩, c5, c6⟩ := s.cells
 clear s
 go_enter Tryz.func46, Tryz.ntmps46
 go_wp2
 go_ret
 exact ⟨rfl, rfl⟩
theorem knid_any (s : KS w B a st q O) : Calls Tryz.prog 45 #[.pointer (some ⟨a.h, 0, none⟩)] w fun e w' => e = .returned (.int .i64 q.nx) /\ w' = w := by
 obtain ⟨⟨c0, c1, c2, c3, c4⟩, c5, c6⟩ := s.cells
 clear s
 go_enter Tryz.func45, Tryz.ntmps45
 go_wp2
 go_ret
 exact ⟨rfl, rfl⟩
end Go.Proofs.YticiofkiffgclaaGreat
