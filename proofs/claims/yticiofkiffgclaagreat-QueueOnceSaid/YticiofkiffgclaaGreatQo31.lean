/-
  Dqd in one text.
-/
import Derived.Test.YticiofkiffgclaaGreatQo30
namespace Go.Proofs.YticiofkiffgclaaGreat
set_option linter.unusedVariables false
open Go.RowKit Go.Maps

theorem insQ_countP (p : Ev → Bool) (x : Ev) (l : List Ev) : (ins byId x l).countP p = l.countP p + if p x then 1 else 0 := by
  induction l with
  | nil => simp [ins, List.countP_cons]
  | cons y t ih =>
    rw [ins]
    split
    · rw [List.countP_cons, ih, List.countP_cons]; omega
    · rw [List.countP_cons]
theorem srtQ_countP (p : Ev → Bool) (l : List Ev) : (srt byId l).countP p = l.countP p := by
  have : ∀ (l o : List Ev), (l.foldl (fun o x => ins byId x o) o).countP p = o.countP p + l.countP p := by
    intro l
    induction l with
    | nil => intro o; simp
    | cons x t ih => intro o; rw [List.foldl_cons, ih, insQ_countP, List.countP_cons]; omega
  simpa [srt] using this l []
theorem srtQ_mem {l : List Ev} {e : Ev} : e ∈ srt byId l ↔ e ∈ l := by rw [(srt_stab tot_byId l).mem tot_byId]

theorem countP_two {p q r : Ev → Bool} : ∀ {L : List Ev}, (∀ e ∈ L, (if p e = true then 1 else 0) + (if q e = true then 1 else 0) = if r e = true then 1 else 0) → L.countP p + L.countP q = L.countP r
  | [], _ => rfl
  | e :: t, h => by
    have h1 := h e (by simp)
    have h2 := countP_two (L := t) fun x hx => h x (by simp [hx])
    rw [List.countP_cons, List.countP_cons, List.countP_cons]
    omega

def seenP (p : Pt) (x : Int) : Bool := seesB p.M p.l x

def oneB (st : List Nat) (n : ByteArray) (L : List Ev) (p r : Pt) : List Ev := srt byId (L.filter (told st p.M p.l r.M r.l n))
def tolB (st : List Nat) (n : ByteArray) (L : List Ev) (P : Nat → Pt) : Nat → List Ev
  | 0 => []
  | k + 1 => tolB st n L P k ++ oneB st n L (P k) (P (k + 1))

theorem oneB_mem {st : List Nat} {n : ByteArray} {L : List Ev} {p r : Pt} {e : Ev} (h : e ∈ oneB st n L p r) : e ∈ L ∧ stAt st e.tx = 2 := by
  unfold oneB at h
  rw [srtQ_mem, List.mem_filter] at h
  refine ⟨h.1, ?_⟩
  have := h.2
  unfold told at this
  simp only [Bool.and_eq_true, beq_iff_eq] at this
  exact this.2.1
theorem tolB_countP {st : List Nat} {n : ByteArray} {L : List Ev} {P : Nat → Pt} (C : Ev → Bool) (hL : ∀ e ∈ L, stAt st e.tx = 2 ∧ dueB e.ow n = true) (h0 : ∀ e ∈ L, seenP (P 0) e.tx = false) :
    ∀ k, (∀ i, i < k → ∀ x, seenP (P i) x = true → seenP (P (i + 1)) x = true) → (tolB st n L P k).countP C = L.countP fun e => C e && seenP (P k) e.tx
  | 0, _ => by
    rw [tolB, List.countP_nil]
    symm
    rw [List.countP_eq_zero]
    intro e he
    rw [h0 e he]
    simp
  | k + 1, mono => by
    rw [tolB, List.countP_append, tolB_countP C hL h0 k (fun i hi => mono i (by omega)), oneB, srtQ_countP, List.countP_filter]
    refine countP_two fun e he => ?_
    obtain ⟨h1, h2⟩ := hL e he
    have h3 := mono k (by omega) e.tx
    unfold told betw
    rw [h1, h2]
    unfold seenP at h3 ⊢
    cases C e with
    | false => simp
    | true =>
      cases a : seesB (P k).M (P k).l e.tx with
      | true => rw [h3 a]; simp
      | false => cases seesB (P (k + 1)).M (P (k + 1)).l e.tx <;> simp

def ptAt (q : Qs) (k : Nat) : Pt := (q.ps[k]?).getD zeroP
theorem ptAt_some {q : Qs} {k : Nat} (h : k < q.ps.length) : q.ps[k]? = some (ptAt q k) := by
  unfold ptAt
  rw [List.getElem?_eq_getElem h]
  rfl
theorem ptAt_mem {q : Qs} {k : Nat} (h : k < q.ps.length) : ptAt q k ∈ q.ps := List.mem_of_getElem? (ptAt_some h)

def lpQ (nm : ByteArray) (q : Qs) (k : Nat) : Qs := { q with cs := [⟨nm, (ptAt q k).n, 0⟩] }
def lpO (nm : ByteArray) (q : Qs) (k : Nat) : Qs := { q with cs := [⟨nm, (ptAt q k).n, (ptAt q (k + 1)).n⟩] }
theorem getC_one (nm : ByteArray) (a b : Int) : getC [⟨nm, a, b⟩] nm = some ⟨nm, a, b⟩ ∧ plc [⟨nm, a, b⟩] nm = some 0 := by
  have h : isN nm ⟨nm, a, b⟩ = true := isN_iff.2 rfl
  constructor
  · unfold getC
    rw [List.find?_cons, h]
  · exact plc_hit (x := ⟨nm, a, b⟩) rfl h (by omega)

theorem lp_next {nm : ByteArray} {q : Qs} {k : Nat} (r : RiseN q.ps) (hk : k < q.ps.length) : nxtO (lpQ nm q k) nm = q.ps[k + 1]? := by
  unfold nxtO lpQ
  rw [(getC_one nm _ _).1]
  simp only [Int.lt_irrefl, if_false]
  exact r.next (ptAt_some hk)
theorem lp_nxtE {nm : ByteArray} {q : Qs} {k : Nat} (r : RiseN q.ps) (hk : k < q.ps.length) : nxtE (lpQ nm q k) nm = if k + 1 < q.ps.length then 0 else 9 := by
  unfold nxtE lpQ
  rw [(getC_one nm _ _).1]
  simp only [Int.lt_irrefl, if_false]
  rw [r.next (ptAt_some hk)]
  by_cases h : k + 1 < q.ps.length
  · rw [List.getElem?_eq_getElem h]; simp [h]
  · rw [List.getElem?_eq_none (by omega)]; simp [h]
theorem lp_nxtP {nm : ByteArray} {q : Qs} {k : Nat} (r : RiseN q.ps) (hk : k + 1 < q.ps.length) : nxtP (lpQ nm q k) nm = ptAt q (k + 1) := by
  unfold nxtP
  rw [lp_next r (by omega)]
  rfl
theorem lp_nxtQ {nm : ByteArray} {q : Qs} {k : Nat} (r : RiseN q.ps) (hk : k + 1 < q.ps.length) : nxtQ (lpQ nm q k) nm = lpO nm q k := by
  unfold nxtQ
  rw [lp_next r (by omega), ptAt_some hk]
  show ({ lpQ nm q k with cs := opnL [⟨nm, (ptAt q k).n, 0⟩] nm (ptAt q (k + 1)).n } : Qs) = lpO nm q k
  have hlt : (ptAt q k).n < (ptAt q (k + 1)).n := (aftS_mem ((r.next (ptAt_some (q := q) (k := k) (by omega))).trans (ptAt_some hk))).2
  unfold opnL
  rw [(getC_one nm _ _).1, (getC_one nm _ _).2]
  simp only [Int.lt_irrefl, false_or]
  rw [if_neg (by omega)]
  rfl
theorem lp_batch {st : List Nat} {nm : ByteArray} {q : Qs} {k : Nat} (r : RiseN q.ps) (pos : ∀ p ∈ q.ps, 1 ≤ p.n) (hk : k + 1 < q.ps.length) :
    batE (lpO nm q k) nm = 0 ∧ batV st (lpO nm q k) nm = oneB st nm (allE q) (ptAt q k) (ptAt q (k + 1)) := by
  have hp := pos _ (ptAt_mem hk)
  constructor
  · unfold batE lpO
    rw [(getC_one nm _ _).1]
    show (if (ptAt q (k + 1)).n = 0 then (7 : Int) else 0) = 0
    rw [if_neg (by omega)]
  · unfold batV
    have e1 : getC (lpO nm q k).cs nm = some ⟨nm, (ptAt q k).n, (ptAt q (k + 1)).n⟩ := (getC_one nm _ _).1
    rw [e1]
    show (if (ptAt q (k + 1)).n = 0 then [] else _) = _
    rw [if_neg (by omega)]
    have e2 : tckP (lpO nm q k) (ptAt q k).n = ptAt q k := by
      show (getS q.ps (ptAt q k).n).getD zeroP = _
      rw [r.get (ptAt_mem (by omega))]
      rfl
    have e3 : tckP (lpO nm q k) (ptAt q (k + 1)).n = ptAt q (k + 1) := by
      show (getS q.ps (ptAt q (k + 1)).n).getD zeroP = _
      rw [r.get (ptAt_mem hk)]
      rfl
    rw [e2, e3]
    rfl
theorem lp_fin {nm : ByteArray} {q : Qs} {k : Nat} (pos : ∀ p ∈ q.ps, 1 ≤ p.n) (hk : k + 1 < q.ps.length) : fnsQ (lpO nm q k) nm = lpQ nm q (k + 1) := by
  have hp := pos _ (ptAt_mem hk)
  show ({ lpO nm q k with cs := finL [⟨nm, (ptAt q k).n, (ptAt q (k + 1)).n⟩] nm } : Qs) = lpQ nm q (k + 1)
  unfold finL
  rw [(getC_one nm _ _).1, (getC_one nm _ _).2]
  show ({ lpO nm q k with cs := if (ptAt q (k + 1)).n = 0 then _ else _ } : Qs) = _
  rw [if_neg (by omega)]
  rfl

/-! ## While they begin, write, end, and ticks come. -/

theorem stAt_app {st : List Nat} {x : Int} (h : x ≤ st.length) (s : Nat) : stAt (st ++ [s]) x = stAt st x := by
  unfold stAt
  split
  · rename_i h1
    rw [List.getD_eq_getElem?_getD, List.getD_eq_getElem?_getD, List.getElem?_append_left (by omega)]
  · rfl
theorem stAt_put {st : List Nat} {x : Int} (h : stAt st x ≠ 0) (s : Nat) (y : Int) : stAt (st.set (x.toNat - 1) s) y = if y = x then s else stAt st y := by
  obtain ⟨h1, h2⟩ := stAt_in h
  by_cases e : y = x
  · subst e
    rw [if_pos rfl]
    unfold stAt
    rw [if_pos h1, List.getD_eq_getElem?_getD, List.getElem?_set_self (by omega)]
    rfl
  · rw [if_neg e]
    unfold stAt
    split
    · rw [List.getD_eq_getElem?_getD, List.getD_eq_getElem?_getD, List.getElem?_set_ne (by omega)]
    · rfl

theorem opens_upB (M : Int) : ∀ (st : List Nat) (k : Nat) (b : Int), b < (k : Int) → (k : Int) + st.length ≤ M → upB M b (opensFrom k st) = true
  | [], k, b, h1, h2 => rfl
  | s :: t, k, b, h1, h2 => by
    have ih := opens_upB M t (k + 1)
    simp only [List.length_cons] at h2
    unfold opensFrom
    split
    · rw [upB, ih _ (by omega) (by omega)]
      simp
      omega
    · exact ih _ (by omega) (by omega)
theorem opens_right (st : List Nat) : rightB ((st.length : Int) + 1) (opens st) = true := by
  unfold rightB opens
  rw [opens_upB _ st 1 0 (by omega) (by omega)]
  simp
  omega
theorem now_sees {st : List Nat} {x : Int} : seesB ((st.length : Int) + 1) (opens st) x = true ↔ 1 ≤ x ∧ x ≤ st.length ∧ stAt st x ≠ 1 := by
  rw [seesB_iff, mem_opens]
  constructor
  · rintro ⟨h1, h2, h3⟩; exact ⟨h1, by omega, h3⟩
  · rintro ⟨h1, h2, h3⟩; exact ⟨h1, by omega, h3⟩

theorem cnt_pre (l : Nat → List Ev) (p : Ev → Bool) : (pre l 3).countP p = (l 0).countP p + (l 1).countP p + (l 2).countP p := by
  simp only [pre, List.nil_append, List.countP_append]
theorem pre_upd {l : Nat → List Ev} {c : Nat} (hc : c < 3) (v : Ev) : (∀ p : Ev → Bool, (pre (upd l c (l c ++ [v])) 3).countP p = (pre l 3).countP p + if p v then 1 else 0) ∧ ∀ e, e ∈ pre (upd l c (l c ++ [v])) 3 ↔ e ∈ pre l 3 ∨ e = v := by
  have : c = 0 ∨ c = 1 ∨ c = 2 := by omega
  constructor
  · intro p
    rw [cnt_pre, cnt_pre]
    rcases this with rfl | rfl | rfl
    · simp [upd, List.countP_append, List.countP_cons]; omega
    · simp [upd, List.countP_append, List.countP_cons]; omega
    · simp [upd, List.countP_append, List.countP_cons]; omega
  · intro e
    constructor
    · intro h
      obtain ⟨i, hi, hm⟩ := mem_pre3.1 h
      by_cases hic : i = c
      · rw [hic, upd_same] at hm
        rcases List.mem_append.1 hm with hm | hm
        · exact .inl (mem_pre3.2 ⟨c, hc, hm⟩)
        · exact .inr (List.mem_singleton.1 hm)
      · rw [upd_ne _ _ hic] at hm
        exact .inl (mem_pre3.2 ⟨i, hi, hm⟩)
    · rintro (h | rfl)
      · obtain ⟨i, hi, hm⟩ := mem_pre3.1 h
        refine mem_pre3.2 ⟨i, hi, ?_⟩
        by_cases hic : i = c
        · rw [hic, upd_same]
          rw [hic] at hm
          exact List.mem_append_left _ hm
        · rw [upd_ne _ _ hic]
          exact hm
      · refine mem_pre3.2 ⟨c, hc, ?_⟩
        rw [upd_same]
        simp

structure OnQ (nm : ByteArray) (st : List Nat) (q : Qs) : Prop where
  ok : OkQ q
  cs : q.cs = [⟨nm, 1, 0⟩]
  hd : q.ps[0]? = some ⟨1, 1, [], 0⟩
  tm : ∀ p ∈ q.ps, p.t = 0
  sees : ∀ p ∈ q.ps, ∀ x, seenP p x = true → x ≤ st.length ∧ stAt st x ≠ 1
  mono : q.ps.Pairwise fun a b => ∀ x, seenP a x = true → seenP b x = true
  evs : ∀ e ∈ pre q.l 3, (stAt st e.tx = 1 ∨ stAt st e.tx = 2) ∧ e.ow = ⟨#[]⟩ ∧ e.id < q.nx
  uniq : ∀ d : Int, (pre q.l 3).countP (fun e => e.id == d) ≤ 1

theorem OnQ.begin {nm : ByteArray} {st : List Nat} {q : Qs} (h : OnQ nm st q) : OnQ nm (st ++ [1]) q := by
  refine ⟨h.ok, h.cs, h.hd, h.tm, ?_, h.mono, ?_, h.uniq⟩
  · intro p hp x hx
    obtain ⟨h1, h2⟩ := h.sees p hp x hx
    refine ⟨by simp; omega, ?_⟩
    rw [stAt_app h1]
    exact h2
  · intro e he
    obtain ⟨h1, h2⟩ := h.evs e he
    refine ⟨?_, h2⟩
    rw [stAt_app (by have := stAt_in (st := st) (x := e.tx) (by omega); omega)]
    exact h1
theorem OnQ.commit {nm : ByteArray} {st : List Nat} {q : Qs} (h : OnQ nm st q) {x : Int} (hx : stAt st x = 1) : OnQ nm (st.set (x.toNat - 1) 2) q := by
  refine ⟨h.ok, h.cs, h.hd, h.tm, ?_, h.mono, ?_, h.uniq⟩
  · intro p hp y hy
    obtain ⟨h1, h2⟩ := h.sees p hp y hy
    refine ⟨by simpa using h1, ?_⟩
    rw [stAt_put (by omega)]
    split
    · omega
    · exact h2
  · intro e he
    obtain ⟨h1, h2⟩ := h.evs e he
    refine ⟨?_, h2⟩
    rw [stAt_put (by omega)]
    split
    · exact .inr rfl
    · exact h1
theorem OnQ.abort {nm : ByteArray} {st : List Nat} {q : Qs} (h : OnQ nm st q) {x : Int} (hx : stAt st x = 1) : OnQ nm (st.set (x.toNat - 1) 3) (frgQ q x) := by
  have hm : ∀ e, e ∈ pre (forL x q.l) 3 → e ∈ pre q.l 3 ∧ e.tx ≠ x := by
    intro e he
    obtain ⟨i, hi, hm⟩ := mem_pre3.1 he
    have hm := List.mem_filter.1 hm
    refine ⟨mem_pre3.2 ⟨i, hi, hm.1⟩, ?_⟩
    have := hm.2
    simpa [ofX] using this
  refine ⟨h.ok.frg x, h.cs, h.hd, h.tm, ?_, h.mono, ?_, ?_⟩
  · intro p hp y hy
    obtain ⟨h1, h2⟩ := h.sees p hp y hy
    refine ⟨by simpa using h1, ?_⟩
    rw [stAt_put (by omega)]
    split
    · omega
    · exact h2
  · intro e he
    obtain ⟨he, hne⟩ := hm e he
    obtain ⟨h1, h2⟩ := h.evs e he
    refine ⟨?_, h2⟩
    rw [stAt_put (by omega), if_neg hne]
    exact h1
  · intro d
    refine Nat.le_trans ?_ (h.uniq d)
    show (pre (forL x q.l) 3).countP _ ≤ _
    rw [cnt_pre, cnt_pre]
    have : ∀ i, (forL x q.l i).countP (fun e => e.id == d) ≤ (q.l i).countP (fun e => e.id == d) := fun i => List.Sublist.countP_le List.filter_sublist
    have a0 := this 0
    have a1 := this 1
    have a2 := this 2
    omega
theorem OnQ.wri {nm : ByteArray} {st : List Nat} {q : Qs} (h : OnQ nm st q) {x : Int} (hx : stAt st x = 1) (tb kd key : Int) (t : ByteArray) (h0 : 0 ≤ q.nx) (hn : q.nx < 4611686018427387904) : OnQ nm st (wriQ q x tb kd key t) := by
  obtain ⟨u1, u2⟩ := pre_upd h.ok.c3 (l := q.l) (wriV q x tb kd key t)
  have hw : wrap64 (q.nx + 1) = q.nx + 1 := by unfold wrap64; omega
  refine ⟨h.ok.wri x tb kd key t, h.cs, h.hd, h.tm, h.sees, h.mono, ?_, ?_⟩
  · intro e he
    show _ ∧ _ ∧ e.id < wrap64 (q.nx + 1)
    rw [hw]
    rcases (u2 e).1 he with he | rfl
    · obtain ⟨h1, h2, h3⟩ := h.evs e he
      exact ⟨h1, h2, by omega⟩
    · refine ⟨.inl hx, rfl, ?_⟩
      show q.nx < q.nx + 1
      omega
  · intro d
    show (pre (upd q.l q.c (q.l q.c ++ [wriV q x tb kd key t])) 3).countP _ ≤ 1
    rw [u1]
    have := h.uniq d
    split
    · rename_i hd
      have hd : q.nx = d := by simpa [wriV] using hd
      have hz : (pre q.l 3).countP (fun e => e.id == d) = 0 := by
        rw [List.countP_eq_zero]
        intro e he
        have := (h.evs e he).2.2
        simp
        omega
      omega
    · omega
theorem OnQ.tck {nm : ByteArray} {st : List Nat} {q : Qs} (h : OnQ nm st q) (hs : st.length ≤ 1000) : OnQ nm st (tckQ q ((st.length : Int) + 1) (opens st) 0) := by
  have hh := h.hd
  refine ⟨h.ok.tck 0 (by omega) (Nat.le_trans (opens_le st) hs), h.cs, ?_, ?_, ?_, ?_, h.evs, h.uniq⟩
  · show (addS q.ps _ _ _)[0]? = _
    unfold addS
    split
    · have : 0 < q.ps.length := by
        rcases Nat.eq_zero_or_pos q.ps.length with e | e
        · rw [List.eq_nil_of_length_eq_zero e] at hh; simp at hh
        · exact e
      rw [List.getElem?_append_left this]
      exact hh
    · exact hh
  · intro p hp
    rcases add_mem hp with hp | rfl
    · exact h.tm p hp
    · rfl
  · intro p hp x hx
    rcases add_mem hp with hp | rfl
    · exact h.sees p hp x hx
    · obtain ⟨h1, h2, h3⟩ := now_sees.1 hx
      exact ⟨h2, h3⟩
  · show (addS q.ps _ _ _).Pairwise _
    unfold addS
    split
    · rw [List.pairwise_append]
      refine ⟨h.mono, by simp, ?_⟩
      intro a ha b hb x hx
      obtain rfl := List.mem_singleton.1 hb
      obtain ⟨h1, h2⟩ := h.sees a ha x hx
      have h3 := (seesB_iff.1 hx).1
      exact now_sees.2 ⟨h3, h1, h2⟩
    · exact h.mono
theorem OnQ.rot {nm : ByteArray} {st : List Nat} {q : Qs} (h : OnQ nm st q) : OnQ nm st (rotQ st q).2.2 := by
  refine ⟨h.ok.rot st, h.cs, h.hd, h.tm, h.sees, h.mono, fun e he => h.evs e (rot_mem he), ?_⟩
  intro d
  refine Nat.le_trans ?_ (h.uniq d)
  show (pre (rotS q.l q.c (freQ st q)).2.2.1 3).countP _ ≤ _
  unfold rotS
  split
  · exact Nat.le_refl _
  · split
    · show (pre (upd q.l (Go.Proofs.YticiofkiffgclaaGreat.nxt q.c) []) 3).countP _ ≤ _
      rw [cnt_pre, cnt_pre]
      have : ∀ i, (upd q.l (Go.Proofs.YticiofkiffgclaaGreat.nxt q.c) [] i).countP (fun e => e.id == d) ≤ (q.l i).countP (fun e => e.id == d) := by
        intro i
        unfold upd
        split
        · simp
        · exact Nat.le_refl _
      have a0 := this 0
      have a1 := this 1
      have a2 := this 2
      omega
    · exact Nat.le_refl _
theorem OnQ.start {nm : ByteArray} (h1 : 1 ≤ nm.size) (h2 : nm.size ≤ 40) : regE [] nm 1 = 0 ∧ rgsQ (tckQ Qs.new 1 [] 0) nm = ⟨fun _ => [], 0, [⟨1, 1, [], 0⟩], [⟨nm, 1, 0⟩], [], 1⟩ ∧ rgsE (tckQ Qs.new 1 [] 0) nm = 0 ∧ OnQ nm [] (rgsQ (tckQ Qs.new 1 [] 0) nm) := by
  have e0 : addS [] 1 [] 0 = [⟨1, 1, [], 0⟩] := rfl
  have e1 : tckQ Qs.new 1 [] 0 = ⟨fun _ => [], 0, [⟨1, 1, [], 0⟩], [], [], 1⟩ := rfl
  have e2 : regE [] nm 1 = 0 := by
    unfold regE
    rw [if_neg (by omega)]
    rfl
  have e3 : rgsQ (tckQ Qs.new 1 [] 0) nm = ⟨fun _ => [], 0, [⟨1, 1, [], 0⟩], [⟨nm, 1, 0⟩], [], 1⟩ := by
    rw [e1]
    unfold rgsQ
    show (if (1 : Int) = 0 then _ else _) = _
    rw [if_neg (by omega)]
    show (⟨fun _ => [], 0, [⟨1, 1, [], 0⟩], regL [] nm 1, [], 1⟩ : Qs) = _
    unfold regL
    rw [e2]
    rfl
  have e4 : rgsE (tckQ Qs.new 1 [] 0) nm = 0 := by
    rw [e1]
    unfold rgsE
    show (if (1 : Int) = 0 then (9 : Int) else regE [] nm 1) = 0
    rw [if_neg (by omega), e2]
  refine ⟨e2, e3, e4, ?_⟩
  have ok : OkQ (rgsQ (tckQ Qs.new 1 [] 0) nm) := (OkQ.new.tck 0 (by omega) (by simp)).rgs nm
  rw [e3] at ok ⊢
  refine ⟨ok, rfl, rfl, by simp, ?_, by simp, by simp [pre], by simp [pre]⟩
  intro p hp x hx
  obtain rfl := List.mem_singleton.1 hp
  obtain ⟨a, b, _⟩ := seesB_iff.1 hx
  exfalso
  have b : x < 1 := b
  omega

theorem OnQ.trm {nm : ByteArray} {st : List Nat} {q : Qs} (h : OnQ nm st q) : trmQ q = q ∧ trmN q = 0 := by
  have e : trimS q.ps (lowQ q) = q.ps := by
    rw [trimS_doc h.ok.okp, List.filter_eq_self]
    intro p hp
    have h1 := h.ok.pos p hp
    have h2 : lowQ q = 1 := by unfold lowQ; rw [h.cs]; rfl
    rw [h2]
    simp [h1]
  constructor
  · unfold trmQ; rw [e]
  · unfold trmN; rw [e]; omega
theorem OnQ.tckE {nm : ByteArray} {st : List Nat} {q : Qs} (h : OnQ nm st q) : addE q.ps ((st.length : Int) + 1) (opens st) 0 = if 64 ≤ q.ps.length then 8 else 0 := by
  have hf : folB q.ps ((st.length : Int) + 1) (opens st) 0 = true := by
    unfold folB
    split
    · rename_i p hp
      have hp : p ∈ q.ps := List.mem_of_getLast? hp
      rw [h.tm p hp, (covB_iff (opens_right st) (h.ok.okp.right p hp)).2]
      · rfl
      · intro x hx
        obtain ⟨h1, h2⟩ := h.sees p hp x hx
        exact now_sees.2 ⟨(seesB_iff.1 hx).1, h1, h2⟩
    · rfl
  unfold addE
  rw [opens_right, hf]
  simp

theorem OnQ.once {nm : ByteArray} {st : List Nat} {q : Qs} (h : OnQ nm st q) (hs : st.length ≤ 1000) (ho : opens st = []) (he : addE q.ps ((st.length : Int) + 1) (opens st) 0 = 0)
    {r : Qs} (hr : r = tckQ q ((st.length : Int) + 1) (opens st) 0) :
    OnQ nm st r ∧ r = lpQ nm r 0 ∧ 2 ≤ r.ps.length ∧ allE r = allE q ∧
      (∀ C : Ev → Bool, (tolB st nm (allE r) (ptAt r) (r.ps.length - 1)).countP C = (allE r).countP C) ∧
      (∀ e ∈ allE r, (tolB st nm (allE r) (ptAt r) (r.ps.length - 1)).countP (fun x => x.id == e.id) = 1) ∧
      (tolB st nm (allE r) (ptAt r) (r.ps.length - 1)).length = (allE r).length := by
  have h' : OnQ nm st r := by rw [hr]; exact h.tck hs
  have hps : r.ps = q.ps ++ [⟨lastN q.ps + 1, (st.length : Int) + 1, opens st, 0⟩] := by
    rw [hr]
    show addS q.ps _ _ _ = _
    unfold addS
    rw [if_pos he]
  have hlen : 0 < q.ps.length := by
    have hh := h.hd
    rcases Nat.eq_zero_or_pos q.ps.length with e | e
    · rw [List.eq_nil_of_length_eq_zero e] at hh; simp at hh
    · exact e
  have hrl : r.ps.length = q.ps.length + 1 := by rw [hps]; simp
  have p0 : ptAt r 0 = ⟨1, 1, [], 0⟩ := by unfold ptAt; rw [h'.hd]; rfl
  have pk : ptAt r (r.ps.length - 1) = ⟨lastN q.ps + 1, (st.length : Int) + 1, opens st, 0⟩ := by
    unfold ptAt
    rw [hrl, hps, List.getElem?_append_right (by omega)]
    simp
  have hall : ∀ e ∈ allE r, stAt st e.tx = 2 ∧ dueB e.ow nm = true := by
    intro e hm
    obtain ⟨h1, h2, _⟩ := h'.evs e (srtQ_mem.1 hm)
    refine ⟨?_, ?_⟩
    · rcases h1 with h1 | h1
      · have := mem_opens.2 h1
        rw [ho] at this
        simp at this
      · exact h1
    · rw [h2]; unfold dueB; rw [show (⟨#[]⟩ : ByteArray).toList = [] by rw [ByteArray.toList_eq]]; rfl
  have h0 : ∀ e ∈ allE r, seenP (ptAt r 0) e.tx = false := by
    intro e hm
    rw [p0]
    cases hq : seenP ⟨1, 1, [], 0⟩ e.tx with
    | false => rfl
    | true =>
      obtain ⟨a, b, _⟩ := seesB_iff.1 hq
      have b : e.tx < 1 := b
      omega
  have hmono : ∀ i, i < r.ps.length - 1 → ∀ x, seenP (ptAt r i) x = true → seenP (ptAt r (i + 1)) x = true := by
    intro i hi
    have h1 : i < r.ps.length := by omega
    have h2 : i + 1 < r.ps.length := by omega
    have := List.pairwise_iff_getElem.1 h'.mono i (i + 1) h1 h2 (by omega)
    have e1 : ptAt r i = r.ps[i] := by unfold ptAt; rw [List.getElem?_eq_getElem h1]; rfl
    have e2 : ptAt r (i + 1) = r.ps[i + 1] := by unfold ptAt; rw [List.getElem?_eq_getElem h2]; rfl
    rw [e1, e2]
    exact this
  have key : ∀ C : Ev → Bool, (tolB st nm (allE r) (ptAt r) (r.ps.length - 1)).countP C = (allE r).countP C := by
    intro C
    rw [tolB_countP C hall h0 _ hmono, pk]
    apply List.countP_congr
    intro e hm
    have h1 := (hall e hm).1
    have h2 := stAt_in (st := st) (x := e.tx) (by omega)
    have : seenP ⟨lastN q.ps + 1, (st.length : Int) + 1, opens st, 0⟩ e.tx = true := now_sees.2 ⟨h2.1, h2.2, by omega⟩
    rw [this]
    simp
  refine ⟨h', ?_, by omega, by rw [hr]; rfl, key, ?_, ?_⟩
  · have e : r.cs = [⟨nm, (ptAt r 0).n, 0⟩] := by rw [h'.cs, p0]
    unfold lpQ
    rw [← e]
  · intro e hm
    rw [key]
    have h1 : (allE r).countP (fun x => x.id == e.id) ≤ 1 := by
      unfold allE
      rw [srtQ_countP]
      exact h'.uniq e.id
    have h2 : 0 < (allE r).countP (fun x => x.id == e.id) := List.countP_pos_iff.2 ⟨e, hm, by simp⟩
    omega
  · have := key fun _ => true
    simpa using this

end Go.Proofs.YticiofkiffgclaaGreat
