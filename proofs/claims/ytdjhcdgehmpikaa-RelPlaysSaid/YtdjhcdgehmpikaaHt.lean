/-
  What a transaction sees, whatever others do: plain laws, and the calls of others with what they leave.
-/
import Derived.Test.YtdjhcdgehmpikaaQs
namespace Go.Proofs.Ytdjhcdgehmpikaa
open Go.RowKit

/-- Scan's rows, by filters. -/
def scanF (P : Vr → Bool) (ks : List Int) (F : Int → List Vr) : List (Int × ByteArray) := ks.flatMap fun k => ((F k).filter P).map fun r => (k, r.txt)

theorem seenTo_snoc (P : Vr → Bool) (l : List Vr) (a : Vr) : seenTo P (l ++ [a]) (l.length + 1) = seenTo P l l.length ++ if P a then [l.length] else [] := by
  have e1 : seenTo P (l ++ [a]) l.length = seenTo P l l.length := by
    unfold seenTo
    apply List.filter_congr
    intro j hj
    rw [List.mem_range] at hj
    rw [List.getElem?_append_left hj]
  have e2 : (l ++ [a])[l.length]? = some a := by simp
  cases hp : P a with
  | true => rw [seenTo_hit e2 hp, e1]; rfl
  | false => rw [seenTo_miss e2 hp, e1]; simp

theorem seenTo_filter (P : Vr → Bool) (k : Int) : ∀ (n : Nat) (l : List Vr), l.length = n → (seenTo P l l.length).map (fun i => ((k, match l[i]? with | some r => r.txt | none => ByteArray.empty) : Int × ByteArray)) = (l.filter P).map fun r => (k, r.txt)
  | 0, l, h => by
    obtain rfl := List.eq_nil_of_length_eq_zero h
    rfl
  | n + 1, l, h => by
    have hne : l ≠ [] := by rintro rfl; simp at h
    obtain ⟨l0, a, rfl⟩ : ∃ l0 a, l = l0 ++ [a] := ⟨l.dropLast, l.getLast hne, (List.dropLast_concat_getLast hne).symm⟩
    have h0 : l0.length = n := by simpa using h
    have ih := seenTo_filter P k n l0 h0
    have e1 : (l0 ++ [a]).length = l0.length + 1 := by simp
    rw [e1, seenTo_snoc, List.map_append, List.filter_append, List.map_append, ← ih]
    congr 1
    · apply List.map_congr_left
      intro j hj
      have := (mem_seenTo hj).1
      rw [List.getElem?_append_left this]
    · cases hp : P a with
      | true => simp [hp]
      | false => simp [hp]

theorem scanR_eq (P : Vr → Bool) (ks : List Int) (F : Int → List Vr) : scanR P ks F = scanF P ks F := by
  unfold scanR seenAll scanF
  rw [List.map_flatMap]
  congr 1
  funext k
  rw [List.map_map]
  exact seenTo_filter P k (F k).length (F k) rfl

theorem insK_flatMap {β : Type} (key : Int) (G : Int → List β) (h : G key = []) : ∀ ks : List Int, (insK key ks).flatMap G = ks.flatMap G
  | [] => by simp [insK, h]
  | a :: r => by
    have ih := insK_flatMap key G h r
    unfold insK
    split
    · simp [h]
    · split
      · rfl
      · simp [ih]

/-- What is told of whom one sees: the transactions 1 and 2. -/
def P0 (r : Vr) : Bool := (decide (r.birth = 1) || decide (r.birth = 2)) && !(decide (r.death = 1) || decide (r.death = 2))

theorem did_P0 {st : List Nat} (h : stAt st 1 = 2) (x : Int) : did st ⟨3, [2], 2⟩ x = (decide (x = 1) || decide (x = 2)) := by
  rw [Bool.eq_iff_iff]
  simp only [did, Bool.or_eq_true, Bool.and_eq_true, decide_eq_true_eq, beq_iff_eq, seesB_iff, List.mem_singleton]
  constructor
  · rintro (h1 | ⟨_, h1⟩) <;> omega
  · rintro (rfl | rfl)
    · exact .inr ⟨h, by omega⟩
    · exact .inl (by omega)

theorem sees_P0 {st : List Nat} (h : stAt st 1 = 2) : sees st ⟨3, [2], 2⟩ = P0 := by
  funext r
  simp only [sees, P0, did_P0 h]

/-- Births and deaths by 1, or by those that came later than 2. -/
def Inv (F : Int → List Vr) : Prop := ∀ k, ∀ r ∈ F k, (r.birth = 1 ∨ 3 ≤ r.birth) ∧ (r.death = 0 ∨ 3 ≤ r.death)
/-- No more than so many. -/
def Lim (n : Nat) (ks : List Int) (F : Int → List Vr) : Prop := ks.length ≤ n ∧ ∀ k, (F k).length ≤ n

theorem Lim.mono {n m : Nat} {ks : List Int} {F : Int → List Vr} (h : Lim n ks F) (hm : n ≤ m) : Lim m ks F := ⟨by have := h.1; omega, fun k => by have := h.2 k; omega⟩

theorem filter_die {l : List Vr} {i : Nat} {x : Int} (hl : ∀ r ∈ l, r.death = 0 ∨ 3 ≤ r.death) (hx : 3 ≤ x) : ((dieAt l i x).filter P0).map (·.txt) = (l.filter P0).map (·.txt) := by
  induction l generalizing i with
  | nil => simp [dieAt]
  | cons a l ih =>
    cases i with
    | zero =>
      have h1 := hl a (by simp)
      have e : P0 { a with death := x } = P0 a := by
        simp only [P0]
        have : decide (x = 1) = false := by rw [decide_eq_false_iff_not]; omega
        have : decide (x = 2) = false := by rw [decide_eq_false_iff_not]; omega
        have : decide (a.death = 1) = false := by rw [decide_eq_false_iff_not]; omega
        have : decide (a.death = 2) = false := by rw [decide_eq_false_iff_not]; omega
        simp [*]
      simp only [dieAt, List.modify_zero_cons, List.filter_cons, e]
      split <;> simp
    | succ i =>
      have := ih (i := i) (fun r hr => hl r (by simp [hr]))
      simp only [dieAt] at this ⊢
      rw [List.modify_succ_cons, List.filter_cons, List.filter_cons]
      split
      · rw [List.map_cons, List.map_cons, this]
      · exact this

theorem inv_die {l : List Vr} {i : Nat} {x : Int} (hl : ∀ r ∈ l, (r.birth = 1 ∨ 3 ≤ r.birth) ∧ (r.death = 0 ∨ 3 ≤ r.death)) (hx : 3 ≤ x) : ∀ r ∈ dieAt l i x, (r.birth = 1 ∨ 3 ≤ r.birth) ∧ (r.death = 0 ∨ 3 ≤ r.death) := by
  intro r hr
  obtain ⟨j, hj, e⟩ := List.mem_iff_getElem.1 hr
  simp only [dieAt, List.getElem_modify] at e
  simp only [dieAt, List.length_modify] at hj
  have h1 := hl _ (List.getElem_mem hj)
  split at e
  · subst e; exact ⟨h1.1, .inr hx⟩
  · subst e; exact h1

/-- Another F that is alike to who sees 1 and 2. -/
structure Alike (F G : Int → List Vr) : Prop where
  inv : Inv G
  len : ∀ k, (G k).length = (F k).length
  same : ∀ k, ((G k).filter P0).map (·.txt) = ((F k).filter P0).map (·.txt)

theorem Alike.scan {F G : Int → List Vr} (h : Alike F G) (ks : List Int) : scanF P0 ks G = scanF P0 ks F := by
  unfold scanF
  congr 1
  funext k
  have := congrArg (List.map fun t => (k, t)) (h.same k)
  simpa [List.map_map, Function.comp_def] using this

theorem alike_refl {F : Int → List Vr} (h : Inv F) : Alike F F := ⟨h, fun _ => rfl, fun _ => rfl⟩

theorem alike_die {F : Int → List Vr} (h : Inv F) (key : Int) (i : Nat) {x : Int} (hx : 3 ≤ x) : Alike F (updF F key (dieAt (F key) i x)) := by
  refine ⟨fun k r hr => ?_, fun k => ?_, fun k => ?_⟩
  · by_cases e : k = key
    · subst e; rw [updF_same] at hr; exact inv_die (h k) hx r hr
    · rw [updF_other _ _ e] at hr; exact h k r hr
  · by_cases e : k = key
    · subst e; rw [updF_same, dieAt_length]
    · rw [updF_other _ _ e]
  · by_cases e : k = key
    · subst e; rw [updF_same]; exact filter_die (fun r hr => (h k r hr).2) hx
    · rw [updF_other _ _ e]

theorem Alike.trans {F G H : Int → List Vr} (a : Alike F G) (b : Alike G H) : Alike F H := ⟨b.inv, fun k => (b.len k).trans (a.len k), fun k => (b.same k).trans (a.same k)⟩

theorem alike_dieL {x : Int} (hx : 3 ≤ x) : ∀ (l : List (Int × Nat)) {F : Int → List Vr}, Inv F → Alike F (dieL F x l)
  | [], _, h => alike_refl h
  | q :: l, F, h => by
    have a := alike_die h q.1 q.2 hx
    exact a.trans (alike_dieL hx l a.inv)

theorem alike_del {F : Int → List Vr} (h : Inv F) (st : List Nat) (V : Vw) (key : Int) (hx : 3 ≤ V.own) : Alike F (updF F key (delL st V (F key)).2) := by
  unfold delL
  split
  · split
    · rw [updF_self]; exact alike_refl h
    · split
      · rw [updF_self]; exact alike_refl h
      · split
        · rw [updF_self]; exact alike_refl h
        · exact alike_die h key _ hx
  · rw [updF_self]; exact alike_refl h

theorem alike_tru {F : Int → List Vr} (h : Inv F) (st : List Nat) (V : Vw) (ks : List Int) (hx : 3 ≤ V.own) : Alike F (truF st V ks F) := by
  unfold truF
  split
  · exact alike_dieL hx _ h
  · exact alike_refl h

/-- A birth by one who came later. -/
theorem put_scan {ks : List Int} {F : Int → List Vr} (hs : ks.Pairwise (· < ·)) (hn : ∀ k, k ∉ ks → F k = []) (E key x : Int) (txt : ByteArray) (hx : 3 ≤ x) : scanF P0 (putK E key ks) (putF E key ⟨txt, x, 0⟩ F) = scanF P0 ks F := by
  by_cases e : E = 0
  · rw [putK, putF, if_pos e, if_pos e]
    have p : P0 ⟨txt, x, 0⟩ = false := by
      have h1 : decide (x = 1) = false := by rw [decide_eq_false_iff_not]; omega
      have h2 : decide (x = 2) = false := by rw [decide_eq_false_iff_not]; omega
      simp [P0, h1, h2]
    have g : ∀ k, ((updF F key (F key ++ [⟨txt, x, 0⟩]) k).filter P0) = (F k).filter P0 := by
      intro k
      by_cases e : k = key
      · subst e; rw [updF_same, List.filter_append]; simp [p]
      · rw [updF_other _ _ e]
    have e2 : scanF P0 (insK key ks) (updF F key (F key ++ [⟨txt, x, 0⟩])) = (insK key ks).flatMap fun k => ((F k).filter P0).map fun r => (k, r.txt) := by
      unfold scanF
      congr 1
      funext k
      rw [g k]
    rw [e2]
    by_cases hk : key ∈ ks
    · rw [insK_of_mem hs hk]; rfl
    · rw [insK_flatMap key _ (by rw [hn key hk]; rfl)]; rfl
  · rw [putK, putF, if_neg e, if_neg e]

theorem put_inv {F : Int → List Vr} (h : Inv F) (E key x : Int) (txt : ByteArray) (hx : 3 ≤ x) : Inv (putF E key ⟨txt, x, 0⟩ F) := by
  unfold putF
  split
  · intro k r hr
    by_cases e : k = key
    · subst e
      rw [updF_same] at hr
      rcases List.mem_append.1 hr with h1 | h1
      · exact h k r h1
      · simp at h1; subst h1; exact ⟨.inr hx, .inl rfl⟩
    · rw [updF_other _ _ e] at hr; exact h k r hr
  · exact h

theorem put_lim {n : Nat} {ks : List Int} {F : Int → List Vr} (h : Lim n ks F) (E key : Int) (r : Vr) : Lim (n + 1) (putK E key ks) (putF E key r F) := by
  unfold putK putF
  split
  · refine ⟨by have := (insK_length key ks).1; have := h.1; omega, fun k => ?_⟩
    by_cases e : k = key
    · subst e; rw [updF_same]; have := h.2 k; simp; omega
    · rw [updF_other _ _ e]; have := h.2 k; omega
  · exact h.mono (by omega)

theorem alike_lim {n : Nat} {ks : List Int} {F G : Int → List Vr} (h : Lim n ks F) (a : Alike F G) : Lim n ks G := ⟨h.1, fun k => by rw [a.len]; exact h.2 k⟩

theorem Sd.facts {w : World} {B p h : Nat} {O : Nat → Prop} {st : List Nat} {ks : List Int} {F : Int → List Vr} (a : Sd w B p h O st ks F) : ks.Pairwise (· < ·) ∧ ∀ k, k ∉ ks → F k = [] := by
  obtain ⟨b, mb, v, S, a, rfl⟩ := a
  refine ⟨a.hp.srt, fun k hk => ?_⟩
  have hr := a.hp.rows k
  rw [a.hp.nk k hk] at hr
  rcases hr.2 with ⟨_, h0⟩ | ⟨g, cap, cur, h1, _⟩
  · exact List.eq_nil_of_length_eq_zero h0
  · cases h1

/-- What a call of one who came later leaves. -/
structure Nx (n : Nat) (ks : List Int) (F : Int → List Vr) (ks' : List Int) (F' : Int → List Vr) : Prop where
  inv : Inv F'
  lim : Lim (n + 1) ks' F'
  scan : scanF P0 ks' F' = scanF P0 ks F

section
variable {w : World} {B p h : Nat} {O : Nat → Prop} {st : List Nat} {ks : List Int} {F : Int → List Vr} {n : Nat}

theorem ins_round (a : Sd w B p h O st ks F) (hi : Inv F) (hl : Lim n ks F) (hn : n ≤ 900) (mx own : Int) (u : Option Addr) (m c : Nat) (opl : List Int) (hv : Vo w (.slice u m c) opl) (ho : (Lit.int .i64 own).wf = true) (h3 : 3 ≤ own) (key : Int) (txt : ByteArray) (hk : (Lit.int .i64 key).wf = true) :
    Calls Try.prog 56 #[.pointer (some ⟨h, 0, none⟩), .agg #[.int .i64 mx, .slice u m c, .int .i64 own], .agg #[.int .i64 key, .string txt]] w fun e w' => ∃ E, e = .returned (.int .i64 E) ∧ ∃ O' ks' F', Sd w' B p h O' st ks' F' ∧ Stp O O' w w' ∧ Nx n ks F ks' F' := by
  obtain ⟨f1, f2⟩ := a.facts
  refine (insert_sd a mx own u m c opl hv ho key txt hk (by have := hl.1; omega) (by have := hl.2 key; omega)).mono ?_
  rintro e w' ⟨rfl, O', s, f⟩
  exact ⟨_, rfl, O', _, _, s, f, put_inv hi _ _ _ _ h3, put_lim hl _ _ _, put_scan f1 f2 _ _ _ _ h3⟩

theorem upd_round (a : Sd w B p h O st ks F) (hi : Inv F) (hl : Lim n ks F) (hn : n ≤ 900) (mx own : Int) (u : Option Addr) (m c : Nat) (opl : List Int) (hv : Vo w (.slice u m c) opl) (ho : (Lit.int .i64 own).wf = true) (h3 : 3 ≤ own) (key : Int) (txt : ByteArray) (hk : (Lit.int .i64 key).wf = true) :
    Calls Try.prog 57 #[.pointer (some ⟨h, 0, none⟩), .agg #[.int .i64 mx, .slice u m c, .int .i64 own], .agg #[.int .i64 key, .string txt]] w fun e w' => ∃ E, e = .returned (.int .i64 E) ∧ ∃ O' ks' F', Sd w' B p h O' st ks' F' ∧ Stp O O' w w' ∧ Nx n ks F ks' F' := by
  obtain ⟨f1, f2⟩ := a.facts
  have al := alike_del hi st ⟨mx, opl, own⟩ key h3
  refine (update_sd a mx own u m c opl hv ho key txt hk (by have := hl.1; omega) (by have := hl.2 key; omega)).mono ?_
  rintro e w' ⟨rfl, O', s, f⟩
  have f3 : ∀ k, k ∉ ks → updF F key (delL st ⟨mx, opl, own⟩ (F key)).2 k = [] := fun k hk => by
    have := al.len k
    rw [f2 k hk] at this
    exact List.eq_nil_of_length_eq_zero this
  exact ⟨_, rfl, O', _, _, s, f, put_inv al.inv _ _ _ _ h3, put_lim (alike_lim hl al) _ _ _, (put_scan f1 f3 _ _ _ _ h3).trans (al.scan ks)⟩

theorem del_round (a : Sd w B p h O st ks F) (hi : Inv F) (hl : Lim n ks F) (mx own : Int) (u : Option Addr) (m c : Nat) (opl : List Int) (hv : Vo w (.slice u m c) opl) (ho : (Lit.int .i64 own).wf = true) (h3 : 3 ≤ own) (key : Int) (hk : (Lit.int .i64 key).wf = true) :
    Calls Try.prog 39 #[.pointer (some ⟨h, 0, none⟩), .agg #[.int .i64 mx, .slice u m c, .int .i64 own], .int .i64 key] w fun e w' => ∃ E, e = .returned (.int .i64 E) ∧ ∃ O' ks' F', Sd w' B p h O' st ks' F' ∧ Stp O O' w w' ∧ Nx n ks F ks' F' := by
  have al := alike_del hi st ⟨mx, opl, own⟩ key h3
  refine (delete_sd a mx own u m c opl hv ho key hk).mono ?_
  rintro e w' ⟨rfl, O', s, f⟩
  exact ⟨_, rfl, O', _, _, s, f, al.inv, (alike_lim hl al).mono (by omega), al.scan ks⟩

theorem tru_round (a : Sd w B p h O st ks F) (hi : Inv F) (hl : Lim n ks F) (hn : n ≤ 900) (mx own : Int) (u : Option Addr) (m c : Nat) (opl : List Int) (hv : Vo w (.slice u m c) opl) (ho : (Lit.int .i64 own).wf = true) (h3 : 3 ≤ own) :
    Calls Try.prog 40 #[.pointer (some ⟨h, 0, none⟩), .agg #[.int .i64 mx, .slice u m c, .int .i64 own]] w fun e w' => ∃ u' m' c' E, e = .returned (.tuple #[.slice u' m' c', .int .i64 E]) ∧ ∃ O' ks' F', Sd w' B p h O' st ks' F' ∧ Stp O O' w w' ∧ Nx n ks F ks' F' := by
  have al := alike_tru hi st ⟨mx, opl, own⟩ ks h3
  refine (truncate_sd a mx own u m c opl hv ho n ⟨hl.1, hl.2, hn⟩).mono ?_
  rintro e w' ⟨v', rfl, ho', O', s, f⟩
  obtain ⟨u', c', rfl⟩ := ownsRow_shape ho'
  exact ⟨u', _, c', _, rfl, O', _, _, s, f, al.inv, (alike_lim hl al).mono (by omega), al.scan ks⟩
end

end Go.Proofs.Ytdjhcdgehmpikaa
