/-
  Zqi, Zta in one text.
-/
import Derived.Test.YticiofkiffgclaaGreatQo36
import Derived.Test.YticiofkiffgclaaGreatQo31
namespace Go.Proofs.YticiofkiffgclaaGreat
set_option linter.unusedVariables false
open Go.RowKit

variable {w w' : World} {B : Nat} {a : Hk} {st : List Nat} {q : Qs} {O : Nat → Prop}

def begE (st : List Nat) : Int := if 6 ≤ (opens st).length then 8 else 0
def begV (st : List Nat) : Int := if 6 ≤ (opens st).length then 0 else (st.length : Int) + 1
def begS (st : List Nat) : List Nat := if 6 ≤ (opens st).length then st else st ++ [1]
def endE (st : List Nat) (x : Int) : Int := if stAt st x = 1 then 0 else 7
def endS (st : List Nat) (x : Int) (s : Nat) : List Nat := if stAt st x = 1 then st.set (x.toNat - 1) s else st
theorem begS_len (st : List Nat) : (begS st).length ≤ st.length + 1 := by unfold begS; split <;> simp
theorem endS_len (st : List Nat) (x : Int) (s : Nat) : (endS st x s).length = st.length := by unfold endS; split <;> simp

def MPost (w : World) (B : Nat) (a : Hk) (st' : List Nat) (q : Qs) (O : Nat → Prop) (w' : World) : Prop := KS w' B a st' q O ∧ Fm B mts w w'
theorem KS.mg (s : KS w B a st q O) : ∃ (b : Nat) (u : Value), Mg w B a.p b u st := by
  obtain ⟨b, u, d, xs, kq, g, e1, e2, rfl⟩ := s.ex
  exact ⟨b, u, g⟩
theorem KS.mstep (s : KS w B a st q O) {b' : Nat} {u' : Value} {st' : List Nat} (m : Mg w' B a.p b' u' st') (f : Fm B mts w w') : MPost w B a st' q O w' := by
  obtain ⟨b, u, d, xs, kq, g, e1, e2, rfl⟩ := s.ex
  exact ⟨⟨b', u', d, xs, kq.mg f, m, e1, e2, rfl⟩, f⟩
theorem kbegin_any (s : KS w B a st q O) (hl : st.length ≤ 1000) : Calls Tryz.prog 18 #[.pointer (some ⟨a.p, 0, none⟩)] w fun e w' => e = .returned (.tuple #[.int .i64 (begV st), .int .i64 (begE st)]) ∧ MPost w B a (begS st) q O w' := by
  obtain ⟨b, u, g⟩ := s.mg
  by_cases h : 6 ≤ (opens st).length
  · refine (mbegin_full g (.inl h)).mono ?_
    rintro e w' ⟨rfl, rfl⟩
    exact ⟨by rw [begV, begE, if_pos h, if_pos h], by rw [begS, if_pos h]; exact s.mstep g (Fm.refl _ _ _)⟩
  · refine (mbegin_ok g (by omega) (by omega)).mono ?_
    rintro e w' ⟨rfl, v', m, f⟩
    exact ⟨by rw [begV, begE, if_neg h, if_neg h], by rw [begS, if_neg h]; exact s.mstep m f⟩
theorem kcommit_any (s : KS w B a st q O) (x : Int) (hx : (Lit.int .i64 x).wf = true) : Calls Tryz.prog 21 #[.pointer (some ⟨a.p, 0, none⟩), .int .i64 x] w fun e w' => e = .returned (.int .i64 (endE st x)) ∧ MPost w B a (endS st x 2) q O w' := by
  obtain ⟨b, u, g⟩ := s.mg
  by_cases h : stAt st x = 1
  · refine (mcommit_ok g x hx h).mono ?_
    rintro e w' ⟨rfl, m, f⟩
    exact ⟨by rw [endE, if_pos h], by rw [endS, if_pos h]; exact s.mstep m f⟩
  · refine (mcommit_bad g x hx h).mono ?_
    rintro e w' ⟨rfl, rfl⟩
    exact ⟨by rw [endE, if_neg h], by rw [endS, if_neg h]; exact s.mstep g (Fm.refl _ _ _)⟩
theorem kabort_any (s : KS w B a st q O) (x : Int) (hx : (Lit.int .i64 x).wf = true) : Calls Tryz.prog 22 #[.pointer (some ⟨a.p, 0, none⟩), .int .i64 x] w fun e w' => e = .returned (.int .i64 (endE st x)) ∧ MPost w B a (endS st x 3) q O w' := by
  obtain ⟨b, u, g⟩ := s.mg
  by_cases h : stAt st x = 1
  · refine (mabort_ok g x hx h).mono ?_
    rintro e w' ⟨rfl, m, f⟩
    exact ⟨by rw [endE, if_pos h], by rw [endS, if_pos h]; exact s.mstep m f⟩
  · refine (mabort_bad g x hx h).mono ?_
    rintro e w' ⟨rfl, rfl⟩
    exact ⟨by rw [endE, if_neg h], by rw [endS, if_neg h]; exact s.mstep g (Fm.refl _ _ _)⟩
theorem knext_any (s : KS w B a st q O) : Calls Tryz.prog 17 #[.pointer (some ⟨a.p, 0, none⟩)] w fun e w' => e = .returned (.int .i64 ((st.length : Int) + 1)) ∧ w = w' := by
  obtain ⟨b, u, g⟩ := s.mg
  exact mnext_any g
theorem kstate_any (s : KS w B a st q O) (x : Int) (hx : (Lit.int .i64 x).wf = true) : Calls Tryz.prog 19 #[.pointer (some ⟨a.p, 0, none⟩), .int .i64 x] w fun e w' => e = .returned (.int .u8 (stAt st x)) ∧ w = w' := by
  obtain ⟨b, u, g⟩ := s.mg
  exact mstate_any g x hx
theorem know_any (s : KS w B a st q O) : Calls Tryz.prog 25 #[.pointer (some ⟨a.p, 0, none⟩)] w fun e w' => ∃ va vc, e = .returned (.agg #[.int .i64 ((st.length : Int) + 1), .slice va (opens st).length vc]) ∧ RdT w' (.slice va (opens st).length vc) (opens st) ∧ Kept w w' [] := by
  obtain ⟨b, u, g⟩ := s.mg
  refine (mnow_any g).mono ?_
  rintro e w' ⟨va, vc, rfl, h, k⟩
  exact ⟨va, vc, rfl, owns_rdT h, k⟩

def Kh (w0 w : World) (a : Hk) (st : List Nat) (q : Qs) : Prop := (∃ O, KS w w0.heap.size a st q O) ∧ Kept w0 w []
variable {w0 : World}
theorem Kh.post {q' : Qs} (s : KS w w0.heap.size a st q O) (k0 : Kept w0 w []) (p : KPost w w0.heap.size a st O q' w') : Kh w0 w' a st q' := by
  obtain ⟨O', s', t⟩ := p
  exact ⟨⟨O', s'⟩, k0.foC t.1 (fun k hk => (s.lt k hk).1)⟩
theorem Kh.mpost {st' : List Nat} (k0 : Kept w0 w []) (p : MPost w w0.heap.size a st' q O w') : Kh w0 w' a st' q :=
  ⟨⟨O, p.1⟩, ((Fm.ofKept k0 w0.heap.size mts).trans p.2).kept (Nat.le_refl _)⟩
theorem kh_new (k0 : Kept w0 w []) : Calls Tryz.prog 13 #[] w fun e w1 => ∃ p, e = .returned (.pointer (some ⟨p, 0, none⟩)) ∧ Kept w0 w1 [] ∧
    Hid (∀ w2, Kept w1 w2 [] → Calls Tryz.prog 14 #[.pointer (some ⟨p, 0, none⟩)] w2 fun e w' => ∃ a, e = .returned (.pointer (some ⟨a.h, 0, none⟩)) ∧ a.p = p ∧ Kh w0 w' a [] Qs.new ∧ Kept w2 w' []) := by
  refine (mnew_any w).mono ?_
  rintro e w1 ⟨p, b, v, rfl, g, k1⟩
  refine ⟨p, rfl, k0.trans k1 (by simp), Lib.hid (fun w2 k2 => ?_)⟩
  refine (knew_any (B := w0.heap.size) (g.keep k2) k0.size (by have := (k0.trans (k1.trans k2 (by simp)) (by simp)).size; exact this)).mono ?_
  rintro e w3 ⟨a, O, rfl, rfl, s, k3, _⟩
  exact ⟨a, rfl, rfl, ⟨⟨O, s⟩, k0.trans (k1.trans (k2.trans k3 (by simp)) (by simp)) (by simp)⟩, k3⟩

set_option maxHeartbeats 2000000 in
set_option maxRecDepth 100000 in
theorem early_any (w : World) : Calls Tryz.prog 9 #[] w fun e w' => e = .returned (.bool true) ∧ Kept w w' [] := by
  go_enter Tryz.func9, Tryz.ntmps9
  go_wp2_with fail
  refine (kh_new (Kept.refl w [])).mono ?_
  rintro e w1 ⟨p, rfl, k1, hn⟩
  have K1 := Lib.hid k1; clear k1
  go_wp2_with fail
  refine (hn.out w1 (Kept.refl _ _)).mono ?_
  rintro e w2 ⟨a, rfl, rfl, c, k2⟩
  obtain ⟨⟨O, s⟩, k0⟩ := c
  have S := Lib.hid s; have K0 := Lib.hid k0
  have RG := Lib.hid (krgs_any s SzQ.new (by omega) ⟨#[97]⟩)
  have r1 : rgsE Qs.new ⟨#[97]⟩ = 9 := rfl
  have r2 : rgsQ Qs.new ⟨#[97]⟩ = Qs.new := rfl
  rw [r1, r2] at RG
  clear s k0 hn k2 r1 r2
  go_wp2_with fail
  refine RG.out.mono ?_
  rintro e w3 ⟨rfl, p3⟩
  obtain ⟨⟨O3, s3⟩, k3⟩ := Kh.post S.out K0.out p3
  have S3 := Lib.hid s3; have K3 := Lib.hid k3
  have NI := Lib.hid (knid_any s3); have TK := Lib.hid (kticks_any s3)
  obtain ⟨b, u, d, xs, kq, mg, e1, e2, hO⟩ := s3.ex
  have hx : xs = [] := List.map_eq_nil_iff.1 e1
  subst hx
  have LA := Lib.hid (tklast_any kq.tk (by simp))
  have r3 : lastN (List.map Tk.pl []) = 0 := rfl
  have r4 : Qs.new.nx = 1 := rfl
  rw [r3] at LA
  rw [r4] at NI
  clear p3 s3 k3 kq mg e1 e2 hO r3 r4
  go_wp2_with fail
  refine NI.out.mono ?_
  rintro e w4 ⟨rfl, hw⟩
  have hw2 := hw.symm; clear hw; subst hw2
  go_wp2_with fail
  refine TK.out.mono ?_
  rintro e w4 ⟨rfl, hw⟩
  have hw2 := hw.symm; clear hw; subst hw2
  go_wp2_with fail
  refine LA.out.mono ?_
  rintro e w4 ⟨rfl, k4⟩
  have K4 := Lib.hid (K3.out.trans k4 (by simp)); clear k4
  go_wp2
  go_ret
  exact ⟨rfl, K4.out⟩

end Go.Proofs.YticiofkiffgclaaGreat

namespace Go.Proofs.YticiofkiffgclaaGreat
set_option linter.unusedVariables false
open Go.RowKit

def comS (st : List Nat) (l : List Int) : List Nat := l.foldl (fun s x => endS s x 2) st
theorem comS_snoc (st : List Nat) (l : List Int) (x : Int) : comS st (l ++ [x]) = endS (comS st l) x 2 := by unfold comS; rw [List.foldl_append]; rfl
theorem comS_take {st : List Nat} {l : List Int} {i : Nat} {x : Int} (h : l[i]? = some x) : comS st (l.take (i + 1)) = endS (comS st (l.take i)) x 2 := by
  rw [List.take_add_one, h]
  exact comS_snoc _ _ _
theorem comS_len (st : List Nat) (l : List Int) : (comS st l).length = st.length := by
  induction l generalizing st with
  | nil => rfl
  | cons x t ih =>
    show (comS (endS st x 2) t).length = _
    rw [ih, endS_len]
theorem stAt_end {st : List Nat} {x y : Int} (h : stAt (endS st x 2) y = 1) : stAt st y = 1 ∧ y ≠ x := by
  unfold endS at h
  split at h
  · rename_i hx
    rw [stAt_put (by omega)] at h
    split at h
    · exact absurd h (by decide)
    · rename_i hn
      exact ⟨h, hn⟩
  · rename_i hx
    exact ⟨h, fun e => hx (e ▸ h)⟩
theorem stAt_com {l : List Int} {y : Int} : ∀ {st : List Nat}, stAt (comS st l) y = 1 → stAt st y = 1 ∧ y ∉ l := by
  induction l with
  | nil => intro st h; exact ⟨h, by simp⟩
  | cons x t ih =>
    intro st h
    obtain ⟨h1, h2⟩ := ih (st := endS st x 2) h
    obtain ⟨h3, h4⟩ := stAt_end h1
    refine ⟨h3, ?_⟩
    rw [List.mem_cons]
    rintro (e | e)
    · exact h4 e
    · exact h2 e
theorem opens_com (st : List Nat) : opens (comS st (opens st)) = [] := by
  rw [List.eq_nil_iff_forall_not_mem]
  intro y hy
  obtain ⟨h1, h2⟩ := stAt_com (mem_opens.1 hy)
  exact h2 (mem_opens.2 h1)
theorem OnQ.endS {nm : ByteArray} {st : List Nat} {q : Qs} (h : OnQ nm st q) (x : Int) : OnQ nm (endS st x 2) q := by
  unfold Go.Proofs.YticiofkiffgclaaGreat.endS
  split
  · exact h.commit (by assumption)
  · exact h
theorem OnQ.comS {nm : ByteArray} {q : Qs} (l : List Int) : ∀ {st : List Nat}, OnQ nm st q → OnQ nm (comS st l) q := by
  induction l with
  | nil => intro st h; exact h
  | cons x t ih => intro st h; exact ih (st := Go.Proofs.YticiofkiffgclaaGreat.endS st x 2) (h.endS x)
def cntI (l : List Int) (x : Int) : Nat := l.countP fun y => y == x
theorem cntI_step {l : List Int} {i : Nat} {x y : Int} (h : l[i]? = some x) : cntI (l.take (i + 1)) y = cntI (l.take i) y + if x = y then 1 else 0 := by
  unfold cntI
  rw [List.take_add_one, h, List.countP_append]
  simp only [Option.toList_some, List.countP_cons, List.countP_nil, Nat.zero_add, beq_iff_eq]
theorem cntI_le (l : List Int) (i : Nat) (y : Int) : cntI (l.take i) y ≤ l.length := Nat.le_trans List.countP_le_length (by rw [List.length_take]; omega)
theorem cntI_ids (L : List Ev) (x : Int) : cntI (L.map Ev.id) x = L.countP fun e => e.id == x := by
  unfold cntI
  rw [List.countP_map]
  rfl

variable {P : List Tk → Prop} {w w' : World} {B : Nat} {a : Hk} {st : List Nat} {q : Qs} {O : Nat → Prop}
structure KX (P : List Tk → Prop) (w : World) (B : Nat) (a : Hk) (st : List Nat) (q : Qs) (O : Nat → Prop) : Prop where
  ex : ∃ (b : Nat) (u : Value) (d : Kv) (xs : List Tk), Kq w B a d q.l q.c xs q.cs q.rs ∧ Mg w B a.p b u st ∧ xs.map Tk.pl = q.ps ∧ (d.nx = .int .i64 q.nx ∧ P xs) ∧ O = kfoot a d
theorem KX.ks (s : KX P w B a st q O) : KS w B a st q O := by
  obtain ⟨b, u, d, xs, k, g, e1, e2, rfl⟩ := s.ex
  exact ⟨b, u, d, xs, k, g, e1, e2.1, rfl⟩
theorem KX.lt (s : KX P w B a st q O) : ∀ k, O k → B ≤ k ∧ k < w.heap.size := s.ks.lt
theorem KX.keep (s : KX P w B a st q O) (hk : Kept w w' []) : KX P w' B a st q O := by
  obtain ⟨b, u, d, xs, k, g, e1, e2, rfl⟩ := s.ex
  exact ⟨b, u, d, xs, k.keep hk, g.keep hk, e1, e2, rfl⟩
theorem KX.fo (s : KX P w B a st q O) {R : Nat → Prop} (hf : Fo R w w') (hd : ∀ k, O k → ¬ R k) (hn : NoI w R) (ht : NoT w R mts) (hm : NoM w R) : KX P w' B a st q O := by
  obtain ⟨b, u, d, xs, k, g, e1, e2, rfl⟩ := s.ex
  exact ⟨b, u, d, xs, k.fo hf hd hn, g.fo hf ht hm, e1, e2, rfl⟩
def KXPost (P : List Tk → Prop) (w : World) (B : Nat) (a : Hk) (st : List Nat) (O : Nat → Prop) (q' : Qs) (w' : World) : Prop := ∃ O', KX P w' B a st q' O' ∧ Stp O O' w w'
theorem KXPost.of {d d' : Kv} {b : Nat} {u : Value} {l : Nat → List Ev} {c : Nat} {xs xs' : List Tk} {cs : List Cu} {rs : List It} (k : Kq w B a d l c xs cs rs) (g : Mg w B a.p b u st) (r : Kq w' B a d' q.l q.c xs' q.cs q.rs ∧ Stp (kfoot a d) (kfoot a d') w w') (e1 : xs'.map Tk.pl = q.ps) (e2 : d'.nx = .int .i64 q.nx ∧ P xs') : KXPost P w B a st (kfoot a d) q w' :=
  ⟨kfoot a d', ⟨b, u, d', xs', r.1, g.fo r.2.1 (k.noT (by decide)) k.noM, e1, e2, rfl⟩, r.2⟩
theorem KXPost.same (s : KX P w B a st q O) (k : Kept w w' []) : KXPost P w B a st O q w' := ⟨O, s.keep k, Stp.ofK k⟩
theorem KXPost.boxed {W1 w2 : World} {st0 : List Nat} {q0 : Qs} (s0 : KX P w B a st0 q0 O) (k1 : Kept w W1 []) (p : KXPost P W1 B a st O q w') {z : Nat} {c : Array Value} {T : TypeId} {fz : Nat × Nat} (g : w'.heap[z]? = some (.cells c T fz)) (hT : T ∉ mts) (hI : T ≠ 2) (h1 : w.heap.size ≤ z) (h2 : z < W1.heap.size) (f : Fo (fun k => k = z) w' w2) : KXPost P w B a st O q w2 := by
  obtain ⟨O', s', t'⟩ := p
  refine ⟨O', s'.fo f (fun k hk e => ?_) (one_noI g hI) (one_noT g hT) (one_noM g), ((Stp.afterK k1 t').1).far f (fun k e => by omega), (Stp.afterK k1 t').2⟩
  subst e
  rcases t'.2 k hk with h | h
  · have := (s0.lt k h).2; omega
  · omega
def TkXPost (P : List Tk → Prop) (w : World) (B : Nat) (a : Hk) (st : List Nat) (O : Nat → Prop) (p : Pt) (E : Int) (q' : Qs) (e : Ending) (w' : World) : Prop :=
  ∃ y : Tk, e = .returned (.tuple #[.agg y.cs, .int .i64 E]) ∧ y.pl = p ∧ RdT w' y.op y.l ∧ KXPost P w B a st O q' w'
def LoB (b : Nat) (xs : List Tk) : Prop := ∀ x ∈ xs, ∀ k, x.op.ownBlock = some k → k < b
theorem KS.kx (s : KS w B a st q O) : KX (LoB w.heap.size) w B a st q O := by
  obtain ⟨b, u, d, xs, k, g, e1, e2, rfl⟩ := s.ex
  refine ⟨b, u, d, xs, k, g, e1, ⟨e2, fun x hx j hj => ?_⟩, rfl⟩
  obtain ⟨cs, hc⟩ := (k.tk.rd x hx).2 j hj
  exact heap_lt hc
theorem KX.far {b g : Nat} {cur : Array Value} (s : KX (LoB b) w B a st q O) (f : Fo (fun k => k = g) w w') (hg : b ≤ g) (hc : w.heap[g]? = some (.cells cur 2 (0, 0))) : KX (LoB b) w' B a st q O := by
  obtain ⟨c, u, d, xs, k, m, e1, e2, rfl⟩ := s.ex
  have hd : ∀ j, kfoot a d j → ¬ j = g := fun j hj e => by
    subst e
    obtain ⟨x, t, fz, h1, h2⟩ := k.kind hj
    have := tag_one h1 hc
    subst this
    exact absurd h2 (by decide)
  refine ⟨c, u, d, xs, ⟨f.heap (hd _ (.inl rfl)) k.hh, k.bh, k.sp.fo f (fun j hj => hd j (.inr (.inl hj))), k.ds, ⟨f.heap (hd _ (.inr (.inr (.inl (.inl rfl))))) k.tk.hh, k.tk.bh, k.tk.hT, k.tk.own.fo f (fun j hj => hd j (.inr (.inr (.inl (.inr hj))))), fun x hx => (k.tk.rd x hx).off f (fun j hj e => by have := e2.2 x hx j hj; omega)⟩, k.cu.fo f (fun j hj => hd j (.inr (.inr (.inr (.inl hj))))), k.rt.fo f (fun j hj => hd j (.inr (.inr (.inr (.inr hj)))))⟩, m.fo f (one_noT hc (by decide)) (one_noM hc), e1, e2, rfl⟩
theorem KS.row {C n : Nat} {v : Value} {xs : List Value} (s : KS w B a st q O) {O' : Nat → Prop} (t : Stp O O' w w') (h : w.ownsRow C 2 1 v n xs) : w'.ownsRow C 2 1 v n xs :=
  ownsRow_fo h t.1 fun g hg ho => by
    obtain ⟨cur, hc⟩ := ownsRow_tag h hg
    exact s.noI g ho _ _ hc
end Go.Proofs.YticiofkiffgclaaGreat
