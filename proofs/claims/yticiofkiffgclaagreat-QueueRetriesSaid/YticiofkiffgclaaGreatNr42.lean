/-
  Dqf, Dqg in one text.
-/
import Derived.Test.YticiofkiffgclaaGreatNr41
namespace Go.Proofs.YticiofkiffgclaaGreat
set_option linter.unusedVariables false
open Go.RowKit Go.Maps

def qa : ByteArray := ⟨#[97]⟩
def qb : ByteArray := ⟨#[98]⟩
theorem qa_list : qa.toList = [97] := by rw [ByteArray.toList_eq]; rfl
theorem qb_list : qb.toList = [98] := by rw [ByteArray.toList_eq]; rfl
theorem qe_list : (⟨#[]⟩ : ByteArray).toList = [] := by rw [ByteArray.toList_eq]
theorem qa_size : qa.size = 1 := rfl
theorem qb_size : qb.size = 1 := rfl

variable (tb kd key : Int) (t : ByteArray)
def re1 : Ev := ⟨1, 1, ⟨#[]⟩, 0, tb, kd, key, t⟩
def re2 : Ev := ⟨1, 2, qa, 1, tb, kd, key, t⟩
def rIt (at' : Int) : It := ⟨at', ⟨1, 1, qa, 1, tb, kd, key, t⟩⟩
def pt1 : Pt := ⟨1, 1, [], 0⟩
def pt2 : Pt := ⟨2, 2, [], 0⟩
def pt3 (at' : Int) : Pt := ⟨3, 3, [], at'⟩
def tb1 : Nat → List Ev := upd (fun _ => []) 0 [re1 tb kd key t]
def tb2 : Nat → List Ev := upd (tb1 tb kd key t) 0 [re1 tb kd key t, re2 tb kd key t]

theorem cA (a b c d : Int) : getC [⟨qa, a, b⟩, ⟨qb, c, d⟩] qa = some ⟨qa, a, b⟩ ∧ plc [⟨qa, a, b⟩, ⟨qb, c, d⟩] qa = some 0 := by
  have h : isN qa ⟨qa, a, b⟩ = true := isN_iff.2 rfl
  constructor
  · unfold getC
    rw [List.find?_cons, h]
  · exact plc_hit (x := ⟨qa, a, b⟩) rfl h (by omega)
theorem qab : qa ≠ qb := fun h => by
  have := congrArg ByteArray.toList h
  rw [qa_list, qb_list] at this
  exact absurd this (by decide)
theorem isN_no {n : ByteArray} {x : Cu} (h : x.nm ≠ n) : isN n x = false := by
  cases hq : isN n x with
  | false => rfl
  | true => exact absurd (isN_iff.1 hq) h
theorem cB (a b c d : Int) : getC [⟨qa, a, b⟩, ⟨qb, c, d⟩] qb = some ⟨qb, c, d⟩ ∧ plc [⟨qa, a, b⟩, ⟨qb, c, d⟩] qb = some 1 := by
  have h : isN qb ⟨qb, c, d⟩ = true := isN_iff.2 rfl
  have h2 : isN qb ⟨qa, a, b⟩ = false := isN_no qab
  constructor
  · unfold getC
    rw [List.find?_cons, h2, List.find?_cons, h]
  · refine plc_hit (x := ⟨qb, c, d⟩) rfl h ?_
    intro j y hj hy
    obtain rfl : j = 0 := by omega
    obtain rfl : (⟨qa, a, b⟩ : Cu) = y := by simpa using hy
    exact h2

theorem rt_reg : rgsE (tckQ Qs.new 1 [] 0) qa = 0 ∧ rgsQ (tckQ Qs.new 1 [] 0) qa = ⟨fun _ => [], 0, [pt1], [⟨qa, 1, 0⟩], [], 1⟩ ∧
    rgsE ⟨fun _ => [], 0, [pt1], [⟨qa, 1, 0⟩], [], 1⟩ qb = 0 ∧ rgsQ ⟨fun _ => [], 0, [pt1], [⟨qa, 1, 0⟩], [], 1⟩ qb = ⟨fun _ => [], 0, [pt1], [⟨qa, 1, 0⟩, ⟨qb, 1, 0⟩], [], 1⟩ := by
  obtain ⟨h1, h2, h3, _⟩ := OnQ.start (nm := qa) (by rw [qa_size]; omega) (by rw [qa_size]; omega)
  have e : regE [⟨qa, 1, 0⟩] qb 1 = 0 := by
    unfold regE
    rw [if_neg (by rw [qb_size]; omega)]
    have : plc [⟨qa, 1, 0⟩] qb = none := plc_miss fun j y hj hy => by
      obtain rfl : j = 0 := by simpa using hj
      obtain rfl : (⟨qa, 1, 0⟩ : Cu) = y := by simpa using hy
      exact isN_no qab
    rw [this]
    rfl
  refine ⟨h3, h2, ?_, ?_⟩
  · show (if (1 : Int) = 0 then (9 : Int) else regE [⟨qa, 1, 0⟩] qb 1) = 0
    rw [if_neg (by omega), e]
  · unfold rgsQ
    show (if (1 : Int) = 0 then _ else _) = _
    rw [if_neg (by omega)]
    show (⟨fun _ => [], 0, [pt1], regL [⟨qa, 1, 0⟩] qb 1, [], 1⟩ : Qs) = _
    unfold regL
    rw [e, if_pos rfl]
    congr 1
    unfold insC
    have h : ltN qb qa = false := by rw [ltN, qa_list, qb_list]; decide
    simp [insC, h]

theorem rt_wri : wriQ ⟨fun _ => [], 0, [pt1], [⟨qa, 1, 0⟩, ⟨qb, 1, 0⟩], [], 1⟩ 1 tb kd key t = ⟨tb1 tb kd key t, 0, [pt1], [⟨qa, 1, 0⟩, ⟨qb, 1, 0⟩], [], 2⟩ := by
  have hw : wrap64 ((1 : Int) + 1) = 2 := by unfold wrap64; omega
  unfold wriQ
  show (⟨_, 0, [pt1], [⟨qa, 1, 0⟩, ⟨qb, 1, 0⟩], [], wrap64 ((1 : Int) + 1)⟩ : Qs) = _
  rw [hw]
  rfl
theorem rt_tck2 : addE [pt1] 2 [] 0 = 0 ∧ tckQ ⟨tb1 tb kd key t, 0, [pt1], [⟨qa, 1, 0⟩, ⟨qb, 1, 0⟩], [], 2⟩ 2 [] 0 = ⟨tb1 tb kd key t, 0, [pt1, pt2], [⟨qa, 1, 0⟩, ⟨qb, 1, 0⟩], [], 2⟩ := ⟨rfl, rfl⟩
def q5 : Qs := ⟨tb1 tb kd key t, 0, [pt1, pt2], [⟨qa, 1, 2⟩, ⟨qb, 1, 0⟩], [], 2⟩
theorem rt_next : nxtO ⟨tb1 tb kd key t, 0, [pt1, pt2], [⟨qa, 1, 0⟩, ⟨qb, 1, 0⟩], [], 2⟩ qa = some pt2 ∧ nxtQ ⟨tb1 tb kd key t, 0, [pt1, pt2], [⟨qa, 1, 0⟩, ⟨qb, 1, 0⟩], [], 2⟩ qa = q5 tb kd key t := by
  have h : nxtO ⟨tb1 tb kd key t, 0, [pt1, pt2], [⟨qa, 1, 0⟩, ⟨qb, 1, 0⟩], [], 2⟩ qa = some pt2 := by
    unfold nxtO
    rw [(cA 1 0 1 0).1]
    rfl
  refine ⟨h, ?_⟩
  unfold nxtQ
  rw [h]
  show (⟨tb1 tb kd key t, 0, [pt1, pt2], opnL [⟨qa, 1, 0⟩, ⟨qb, 1, 0⟩] qa 2, [], 2⟩ : Qs) = _
  unfold opnL
  rw [(cA 1 0 1 0).1, (cA 1 0 1 0).2]
  rfl
theorem told_yes {st : List Nat} {A B : Int} {o : ByteArray} {e : Ev} (hd : dueB e.ow o = true) (hs : stAt st e.tx = 2) (h1 : 1 ≤ e.tx) (hA : A ≤ e.tx) (hB : e.tx < B) : told st A [] B [] o e = true := by
  unfold told betw
  rw [hd, hs]
  have e1 : seesB B [] e.tx = true := seesB_iff.2 ⟨h1, hB, by simp⟩
  have e2 : seesB A [] e.tx = false := by
    cases hq : seesB A [] e.tx with
    | false => rfl
    | true => have := (seesB_iff.1 hq).2.1; omega
  rw [e1, e2]
  rfl
theorem told_no {st : List Nat} {A B : Int} {o : ByteArray} {e : Ev} (h1 : 1 ≤ e.tx) (hA : e.tx < A) : told st A [] B [] o e = false := by
  unfold told betw
  have e1 : seesB A [] e.tx = true := seesB_iff.2 ⟨h1, hA, by simp⟩
  rw [e1]
  simp
theorem told_not {st : List Nat} {A B : Int} {o : ByteArray} {e : Ev} (hd : dueB e.ow o = false) : told st A [] B [] o e = false := by
  unfold told
  rw [hd]
  rfl

theorem rt_all1 (q : Qs) (h : q.l = tb1 tb kd key t) : allE q = [re1 tb kd key t] := by
  unfold allE
  rw [h]
  rfl
theorem rt_all2 (q : Qs) (h : q.l = tb2 tb kd key t) : allE q = [re1 tb kd key t, re2 tb kd key t] := by
  unfold allE
  rw [h]
  rfl
theorem rt_batch (rs : List It) : batE ⟨tb1 tb kd key t, 0, [pt1, pt2], [⟨qa, 1, 2⟩, ⟨qb, 1, 0⟩], rs, 2⟩ qa = 0 ∧ batV [2] ⟨tb1 tb kd key t, 0, [pt1, pt2], [⟨qa, 1, 2⟩, ⟨qb, 1, 0⟩], rs, 2⟩ qa = [re1 tb kd key t] ∧ batE ⟨tb1 tb kd key t, 0, [pt1, pt2], [⟨qa, 1, 2⟩, ⟨qb, 1, 0⟩], rs, 2⟩ qb = 7 := by
  refine ⟨?_, ?_, ?_⟩
  · unfold batE; rw [(cA 1 2 1 0).1]; rfl
  · unfold batV
    rw [(cA 1 2 1 0).1, rt_all1 tb kd key t _ rfl]
    have : told [2] 1 [] 2 [] qa (re1 tb kd key t) = true := told_yes (by unfold dueB re1; rw [qe_list]; rfl) rfl (by show (1 : Int) ≤ 1; omega) (by show (1 : Int) ≤ 1; omega) (by show (1 : Int) < 2; omega)
    show srt byId ([re1 tb kd key t].filter (told [2] 1 [] 2 [] qa)) = _
    rw [List.filter_cons, this]
    rfl
  · unfold batE; rw [(cB 1 2 1 0).1]; rfl
def q6 (at' : Int) : Qs := ⟨tb1 tb kd key t, 0, [pt1, pt2], [⟨qa, 1, 2⟩, ⟨qb, 1, 0⟩], [rIt tb kd key t at'], 2⟩
theorem rt_retry (at' : Int) :
    rtyE [2] (q5 tb kd key t) qa 1 = 0 ∧ rtyQ [2] (q5 tb kd key t) qa 1 at' = q6 tb kd key t at' ∧
    rtyE [2] (q6 tb kd key t at') qa 1 = 5 ∧ rtyQ [2] (q6 tb kd key t at') qa 1 at' = q6 tb kd key t at' ∧
    rtyE [2] (q6 tb kd key t at') qa 2 = 4 ∧ rtyQ [2] (q6 tb kd key t at') qa 2 at' = q6 tb kd key t at' ∧
    rtyE [2] (q6 tb kd key t at') qb 1 = 7 ∧ rtyQ [2] (q6 tb kd key t at') qb 1 at' = q6 tb kd key t at' := by
  obtain ⟨a1, a2, a3⟩ := rt_batch tb kd key t []
  obtain ⟨b1, b2, b3⟩ := rt_batch tb kd key t [rIt tb kd key t at']
  have a1 : batE (q5 tb kd key t) qa = 0 := a1
  have b1 : batE (q6 tb kd key t at') qa = 0 := b1
  have b3 : batE (q6 tb kd key t at') qb = 7 := b3
  have o5 : agnO [2] (q5 tb kd key t) qa 1 = some (re1 tb kd key t) := by
    unfold agnO
    rw [show batV [2] (q5 tb kd key t) qa = [re1 tb kd key t] from a2]
    rfl
  have o6 : agnO [2] (q6 tb kd key t at') qa 1 = some (re1 tb kd key t) := by
    unfold agnO
    rw [show batV [2] (q6 tb kd key t at') qa = [re1 tb kd key t] from b2]
    rfl
  have o7 : agnO [2] (q6 tb kd key t at') qa 2 = none := by
    unfold agnO
    rw [show batV [2] (q6 tb kd key t at') qa = [re1 tb kd key t] from b2]
    rfl
  have k1 : adiE [] (re1 tb kd key t).id qa = 0 := by unfold adiE; rw [qa_size]; rfl
  have hK : isK 1 qa (rIt tb kd key t at') = true := isK_iff.2 ⟨rfl, rfl⟩
  have k2 : adiE [rIt tb kd key t at'] (re1 tb kd key t).id qa = 5 := by
    unfold adiE
    rw [qa_size]
    show (if (1 : Nat) < 1 then (1 : Int) else if [rIt tb kd key t at'].any (isK 1 qa) = true then 5 else _) = 5
    rw [if_neg (by omega), List.any_cons, hK]
    rfl
  refine ⟨?_, ?_, ?_, ?_, ?_, ?_, ?_, ?_⟩
  · unfold rtyE
    rw [if_pos a1, o5]
    exact k1
  · unfold rtyQ
    rw [if_pos a1, o5]
    show ({ q5 tb kd key t with rs := adiL [] (re1 tb kd key t) qa at' } : Qs) = _
    unfold adiL
    rw [if_pos k1]
    rfl
  · unfold rtyE
    rw [if_pos b1, o6]
    exact k2
  · unfold rtyQ
    rw [if_pos b1, o6]
    show ({ q6 tb kd key t at' with rs := adiL [rIt tb kd key t at'] (re1 tb kd key t) qa at' } : Qs) = _
    unfold adiL
    rw [if_neg (by rw [k2]; decide)]
    rfl
  · unfold rtyE
    rw [if_pos b1, o7]
  · unfold rtyQ
    rw [if_pos b1, o7]
  · unfold rtyE
    rw [if_neg (by rw [b3]; decide), b3]
  · unfold rtyQ
    rw [if_neg (by rw [b3]; decide)]
def q7 (at' : Int) : Qs := ⟨tb1 tb kd key t, 0, [pt1, pt2], [⟨qa, 2, 0⟩, ⟨qb, 1, 0⟩], [rIt tb kd key t at'], 2⟩
theorem rt_fin (at' : Int) : finE (q6 tb kd key t at').cs qa = 0 ∧ fnsQ (q6 tb kd key t at') qa = q7 tb kd key t at' := by
  constructor
  · show finE [⟨qa, 1, 2⟩, ⟨qb, 1, 0⟩] qa = 0
    unfold finE
    rw [(cA 1 2 1 0).1]
    rfl
  · show (⟨tb1 tb kd key t, 0, [pt1, pt2], finL [⟨qa, 1, 2⟩, ⟨qb, 1, 0⟩] qa, [rIt tb kd key t at'], 2⟩ : Qs) = _
    unfold finL
    rw [(cA 1 2 1 0).1, (cA 1 2 1 0).2]
    rfl
def q8 : Qs := ⟨tb2 tb kd key t, 0, [pt1, pt2], [⟨qa, 2, 0⟩, ⟨qb, 1, 0⟩], [], 2⟩
theorem rt_maint (at' : Int) : mntV (q7 tb kd key t at') 2 (at' - 1) = [] ∧ mntQ (q7 tb kd key t at') 2 (at' - 1) = q7 tb kd key t at' ∧ mntV (q7 tb kd key t at') 2 at' = [re2 tb kd key t] ∧ mntQ (q7 tb kd key t at') 2 at' = q8 tb kd key t := by
  have d1 : dueI [rIt tb kd key t at'] (at' - 1) = [] := by
    unfold dueI
    rw [List.filter_cons, show decide ((rIt tb kd key t at').a ≤ at' - 1) = false by rw [decide_eq_false_iff_not]; show ¬ at' ≤ at' - 1; omega]
    rfl
  have d2 : lftI [rIt tb kd key t at'] (at' - 1) = [rIt tb kd key t at'] := by
    unfold lftI
    rw [List.filter_cons, show decide ((rIt tb kd key t at').a ≤ at' - 1) = false by rw [decide_eq_false_iff_not]; show ¬ at' ≤ at' - 1; omega]
    rfl
  have d3 : dueI [rIt tb kd key t at'] at' = [rIt tb kd key t at'] := by
    unfold dueI
    rw [List.filter_cons, show decide ((rIt tb kd key t at').a ≤ at') = true by rw [decide_eq_true_eq]; show at' ≤ at'; omega]
    rfl
  have d4 : lftI [rIt tb kd key t at'] at' = [] := by
    unfold lftI
    rw [List.filter_cons, show decide ((rIt tb kd key t at').a ≤ at') = true by rw [decide_eq_true_eq]; show at' ≤ at'; omega]
    rfl
  have m1 : mntV (q7 tb kd key t at') 2 (at' - 1) = [] := by
    show (evs (dueI [rIt tb kd key t at'] (at' - 1))).map (setTx 2) = []
    rw [d1]; rfl
  have m2 : mntV (q7 tb kd key t at') 2 at' = [re2 tb kd key t] := by
    show (evs (dueI [rIt tb kd key t at'] at')).map (setTx 2) = _
    rw [d3]; rfl
  refine ⟨m1, ?_, m2, ?_⟩
  · unfold mntQ
    rw [m1]
    show (⟨upd (tb1 tb kd key t) 0 (tb1 tb kd key t 0 ++ []), 0, [pt1, pt2], [⟨qa, 2, 0⟩, ⟨qb, 1, 0⟩], lftI [rIt tb kd key t at'] (at' - 1), 2⟩ : Qs) = _
    rw [d2, List.append_nil]
    have : upd (tb1 tb kd key t) 0 (tb1 tb kd key t 0) = tb1 tb kd key t := by
      funext i
      by_cases h : i = 0
      · subst h; rw [upd_same]
      · rw [upd_ne _ _ h]
    rw [this]
    rfl
  · unfold mntQ
    rw [m2]
    show (⟨upd (tb1 tb kd key t) 0 (tb1 tb kd key t 0 ++ [re2 tb kd key t]), 0, [pt1, pt2], [⟨qa, 2, 0⟩, ⟨qb, 1, 0⟩], lftI [rIt tb kd key t at'] at', 2⟩ : Qs) = _
    rw [d4]
    rfl
def q9 (at' : Int) : Qs := ⟨tb2 tb kd key t, 0, [pt1, pt2, pt3 at'], [⟨qa, 2, 0⟩, ⟨qb, 1, 0⟩], [], 2⟩
theorem rt_tck3 {at' : Int} (h : 0 ≤ at') : addE [pt1, pt2] 3 [] at' = 0 ∧ tckQ (q8 tb kd key t) 3 [] at' = q9 tb kd key t at' := by
  have e : addE [pt1, pt2] 3 [] at' = 0 := by
    have hf : folB [pt1, pt2] 3 [] at' = true := by
      show (decide ((0 : Int) ≤ at') && covB 3 2 [] []) = true
      rw [decide_eq_true h]
      rfl
    unfold addE
    rw [hf]
    rfl
  refine ⟨e, ?_⟩
  show (⟨tb2 tb kd key t, 0, addS [pt1, pt2] 3 [] at', [⟨qa, 2, 0⟩, ⟨qb, 1, 0⟩], [], 2⟩ : Qs) = _
  unfold addS
  rw [if_pos e]
  rfl
theorem rt_other (at' : Int) : nxtO (q9 tb kd key t at') qb = some pt2 ∧ nxtQ (q9 tb kd key t at') qb = { q9 tb kd key t at' with cs := [⟨qa, 2, 0⟩, ⟨qb, 1, 2⟩] } ∧
    finE [⟨qa, 2, 0⟩, ⟨qb, 1, 2⟩] qb = 0 ∧ fnsQ { q9 tb kd key t at' with cs := [⟨qa, 2, 0⟩, ⟨qb, 1, 2⟩] } qb = { q9 tb kd key t at' with cs := [⟨qa, 2, 0⟩, ⟨qb, 2, 0⟩] } := by
  have h : nxtO (q9 tb kd key t at') qb = some pt2 := by
    unfold nxtO
    rw [show getC (q9 tb kd key t at').cs qb = _ from (cB 2 0 1 0).1]
    rfl
  refine ⟨h, ?_, ?_, ?_⟩
  · unfold nxtQ
    rw [h]
    show ({ q9 tb kd key t at' with cs := opnL [⟨qa, 2, 0⟩, ⟨qb, 1, 0⟩] qb 2 } : Qs) = _
    unfold opnL
    rw [(cB 2 0 1 0).1, (cB 2 0 1 0).2]
    rfl
  · unfold finE
    rw [(cB 2 0 1 2).1]
    rfl
  · show ({ q9 tb kd key t at' with cs := finL [⟨qa, 2, 0⟩, ⟨qb, 1, 2⟩] qb } : Qs) = _
    unfold finL
    rw [(cB 2 0 1 2).1, (cB 2 0 1 2).2]
    rfl
theorem rt_own (at' : Int) : nxtO (q9 tb kd key t at') qa = some (pt3 at') ∧ nxtQ (q9 tb kd key t at') qa = { q9 tb kd key t at' with cs := [⟨qa, 2, 3⟩, ⟨qb, 1, 0⟩] } ∧
    batE { q9 tb kd key t at' with cs := [⟨qa, 2, 3⟩, ⟨qb, 1, 0⟩] } qa = 0 ∧ batV [2, 2] { q9 tb kd key t at' with cs := [⟨qa, 2, 3⟩, ⟨qb, 1, 0⟩] } qa = [re2 tb kd key t] := by
  have h : nxtO (q9 tb kd key t at') qa = some (pt3 at') := by
    unfold nxtO
    rw [show getC (q9 tb kd key t at').cs qa = _ from (cA 2 0 1 0).1]
    rfl
  refine ⟨h, ?_, ?_, ?_⟩
  · unfold nxtQ
    rw [h]
    show ({ q9 tb kd key t at' with cs := opnL [⟨qa, 2, 0⟩, ⟨qb, 1, 0⟩] qa 3 } : Qs) = _
    unfold opnL
    rw [(cA 2 0 1 0).1, (cA 2 0 1 0).2]
    rfl
  · unfold batE; rw [show getC ({ q9 tb kd key t at' with cs := [⟨qa, 2, 3⟩, ⟨qb, 1, 0⟩] } : Qs).cs qa = _ from (cA 2 3 1 0).1]; rfl
  · unfold batV
    rw [show getC ({ q9 tb kd key t at' with cs := [⟨qa, 2, 3⟩, ⟨qb, 1, 0⟩] } : Qs).cs qa = _ from (cA 2 3 1 0).1, rt_all2 tb kd key t _ rfl]
    have t1 : told [2, 2] 2 [] 3 [] qa (re1 tb kd key t) = false := told_no (by show (1 : Int) ≤ 1; omega) (by show (1 : Int) < 2; omega)
    have t2 : told [2, 2] 2 [] 3 [] qa (re2 tb kd key t) = true := told_yes (by unfold dueB re2; rw [qa_list]; rfl) rfl (by show (1 : Int) ≤ 2; omega) (by show (2 : Int) ≤ 2; omega) (by show (2 : Int) < 3; omega)
    show srt byId ([re1 tb kd key t, re2 tb kd key t].filter (told [2, 2] 2 [] 3 [] qa)) = _
    rw [List.filter_cons, t1, List.filter_cons, t2]
    rfl
theorem rt_others (at' : Int) : nxtO { q9 tb kd key t at' with cs := [⟨qa, 2, 0⟩, ⟨qb, 2, 0⟩] } qb = some (pt3 at') ∧ nxtQ { q9 tb kd key t at' with cs := [⟨qa, 2, 0⟩, ⟨qb, 2, 0⟩] } qb = { q9 tb kd key t at' with cs := [⟨qa, 2, 0⟩, ⟨qb, 2, 3⟩] } ∧
    batE { q9 tb kd key t at' with cs := [⟨qa, 2, 0⟩, ⟨qb, 2, 3⟩] } qb = 0 ∧ batV [2, 2] { q9 tb kd key t at' with cs := [⟨qa, 2, 0⟩, ⟨qb, 2, 3⟩] } qb = [] := by
  have h : nxtO { q9 tb kd key t at' with cs := [⟨qa, 2, 0⟩, ⟨qb, 2, 0⟩] } qb = some (pt3 at') := by
    unfold nxtO
    rw [show getC ({ q9 tb kd key t at' with cs := [⟨qa, 2, 0⟩, ⟨qb, 2, 0⟩] } : Qs).cs qb = _ from (cB 2 0 2 0).1]
    rfl
  refine ⟨h, ?_, ?_, ?_⟩
  · unfold nxtQ
    rw [h]
    show ({ q9 tb kd key t at' with cs := opnL [⟨qa, 2, 0⟩, ⟨qb, 2, 0⟩] qb 3 } : Qs) = _
    unfold opnL
    rw [(cB 2 0 2 0).1, (cB 2 0 2 0).2]
    rfl
  · unfold batE; rw [show getC ({ q9 tb kd key t at' with cs := [⟨qa, 2, 0⟩, ⟨qb, 2, 3⟩] } : Qs).cs qb = _ from (cB 2 0 2 3).1]; rfl
  · unfold batV
    rw [show getC ({ q9 tb kd key t at' with cs := [⟨qa, 2, 0⟩, ⟨qb, 2, 3⟩] } : Qs).cs qb = _ from (cB 2 0 2 3).1, rt_all2 tb kd key t _ rfl]
    have t1 : told [2, 2] 2 [] 3 [] qb (re1 tb kd key t) = false := told_no (by show (1 : Int) ≤ 1; omega) (by show (1 : Int) < 2; omega)
    have t2 : told [2, 2] 2 [] 3 [] qb (re2 tb kd key t) = false := told_not (by unfold dueB re2; rw [qa_list, qb_list]; rfl)
    show srt byId ([re1 tb kd key t, re2 tb kd key t].filter (told [2, 2] 2 [] 3 [] qb)) = _
    rw [List.filter_cons, t1, List.filter_cons, t2]
    rfl

end Go.Proofs.YticiofkiffgclaaGreat

namespace Go.Proofs.YticiofkiffgclaaGreat
set_option linter.unusedVariables false
open Go.RowKit Go.Maps

def Off (ts : List TypeId) (w : World) : Nat → Prop := fun k => ¬ ∃ c t f, w.heap[k]? = some (.cells c t f) ∧ t ∉ ts
theorem Fm.fo {B : Nat} {ts : List TypeId} {w w' : World} (h : Fm B ts w w') : Fo (Off ts w) w w' :=
  ⟨h.os, h.tape, h.output, h.size, fun k hk hn => by
    obtain ⟨c, t, f, h1, h2⟩ := Classical.not_not.1 hn
    rw [h1]
    exact h.heap h1 h2⟩
theorem off_not {ts : List TypeId} {w : World} {k : Nat} {c : Array Value} {t : TypeId} {f : Nat × Nat} (h : w.heap[k]? = some (.cells c t f)) (ht : t ∉ ts) : ¬ Off ts w k := fun ho => ho ⟨c, t, f, h, ht⟩
theorem off_noI {ts : List TypeId} {w : World} (ht : 2 ∉ ts) : NoI w (Off ts w) := fun k hk c f h => off_not h ht hk

def NoT (w : World) (O : Nat → Prop) (ts : List TypeId) : Prop := ∀ k, O k → ∀ c t f, w.heap[k]? = some (.cells c t f) → t ∉ ts
def NoM (w : World) (O : Nat → Prop) : Prop := ∀ k, O k → ∀ es c, w.heap[k]? ≠ some (.map es c)

theorem ownsRow_tag {w : World} {base e size n : Nat} {v : Value} {xs : List Value} (h : w.ownsRow base e size v n xs) {g : Nat} (hg : v.ownBlock = some g) : ∃ cur, w.heap[g]? = some (.cells cur e (0, 0)) := by
  rcases h.2 with ⟨h2, _⟩ | ⟨g', cap, cur, rfl, _, hc, _⟩
  · rw [h2] at hg; cases hg
  · obtain rfl : g' = g := by simpa [Value.ownBlock] using hg
    exact ⟨cur, hc⟩
theorem ownsMap_fo {H : Type} {P : Program} {k : TypeId} {R : Value → Option (DataW H × List MemPlace)} {w w' : World} {b n : Nat} {O : Nat → Prop} {D : DataW H} (h : w.ownsMap P k R b n D) (hf : Fo O w w') (hn : NoM w O) : w'.ownsMap P k R b n D := by
  obtain ⟨es, c, hb, r⟩ := h
  exact ⟨es, c, hf.heap (fun ho => hn b ho _ _ hb) hb, r⟩

theorem Mg.fo {w w' : World} {B p b : Nat} {v : Value} {st : List Nat} {O : Nat → Prop} (h : Mg w B p b v st) (hf : Fo O w w') (hn : NoT w O mts) (hm : NoM w O) : Mg w' B p b v st :=
  { h with
    hp := hf.heap (fun ho => hn p ho _ _ _ h.hp (by simp [mts])) h.hp
    hm := ownsMap_fo h.hm hf hm
    hv := ownsRow_fo h.hv hf fun g hg ho => by
      obtain ⟨cur, hc⟩ := ownsRow_tag h.hv hg
      exact hn g ho _ _ _ hc (by simp [mts]) }

variable {T : TypeId} {w w' : World} {B h : Nat} {d : Dv} {l : Nat → List Ev} {xs : List Tk} {cs : List Cu} {rs : List It}

variable {q : Nat} {v : Value} {st : List Nat}
end Go.Proofs.YticiofkiffgclaaGreat
