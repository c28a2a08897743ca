/-
  Run: a statement on a store.
-/
import Derived.Test.YtdjhcdgehmpikaaQc
namespace Go.Proofs.Ytdjhcdgehmpikaa
open Go.RowKit Go.Maps Go.Sort Go.Shelf

/-- Insert, Update: the error, and the table. -/
def putH (st : List Nat) (V : Vw) (kind : Nat) (key : Int) (txt : ByteArray) (t : Tab) : Int × Tab :=
  if 40 < txt.size then (1, t)
  else if kind = 1 then (insE st V (t.F key), ⟨putK (insE st V (t.F key)) key t.ks, putF (insE st V (t.F key)) key ⟨txt, V.own, 0⟩ t.F⟩)
  else ((delL st V (t.F key)).1, ⟨putK (delL st V (t.F key)).1 key t.ks, putF (delL st V (t.F key)).1 key ⟨txt, V.own, 0⟩ (updF t.F key (delL st V (t.F key)).2)⟩)

structure Out where
  e : Int
  rows : List (Int × ByteArray)
  tab : Tab

/-- Get: the error, the row alone. -/
def getH (st : List Nat) (V : Vw) (key : Int) (t : Tab) : Out := match (t.F key).findIdx? (sees st V) with
  | some i => match (t.F key)[i]? with
    | some r => ⟨0, [(key, r.txt)], t⟩
    | none => ⟨4, [], t⟩
  | none => ⟨4, [], t⟩

/-- A statement on one table. -/
def runH (st : List Nat) (V : Vw) (kind : Nat) (key : Int) (txt : ByteArray) (t : Tab) : Out :=
  if kind = 1 ∨ kind = 2 then ⟨(putH st V kind key txt t).1, [], (putH st V kind key txt t).2⟩
  else if kind = 3 then ⟨(delL st V (t.F key)).1, [], ⟨t.ks, updF t.F key (delL st V (t.F key)).2⟩⟩
  else if kind = 4 then ⟨truE st V t.ks t.F, truR st V t.ks t.F, ⟨t.ks, truF st V t.ks t.F⟩⟩
  else if kind = 5 then getH st V key t
  else if kind = 6 then ⟨0, scanR (sees st V) t.ks t.F, t⟩
  else ⟨1, [], t⟩

/-- A statement on a store: the error, the rows, the tables. -/
def runE (st : List Nat) (V : Vw) (kind : Nat) (tb key : Int) (txt : ByteArray) (T : List Tab) : Int :=
  if tb < 0 then 1 else match T[tb.toNat]? with | some t => (runH st V kind key txt t).e | none => 1
def runR (st : List Nat) (V : Vw) (kind : Nat) (tb key : Int) (txt : ByteArray) (T : List Tab) : List (Int × ByteArray) :=
  if tb < 0 then [] else match T[tb.toNat]? with | some t => (runH st V kind key txt t).rows | none => []
def runT (st : List Nat) (V : Vw) (kind : Nat) (tb key : Int) (txt : ByteArray) (T : List Tab) : List Tab :=
  if tb < 0 then T else match T[tb.toNat]? with | some t => T.set tb.toNat (runH st V kind key txt t).tab | none => T

variable {w w' : World} {B p b r : Nat} {v : Value} {st : List Nat} {L : List Hq} {i : Nat} {t : Hq}

theorem alone_no (key : Int) (txt : ByteArray) (w : World) : Calls Try.prog 41 #[.agg #[.int .i64 key, .string txt], .bool false] w fun e w' => e = .returned (.tuple #[.slice none 0 0, .int .i64 4]) ∧ Kept w w' [] := by
  go_enter Try.func41, Try.ntmps41
  go_wp2
  go_ret2
  exact ⟨rfl, (Kept.refl w []).alloc _⟩

theorem oneRow {w : World} (o : Obj) (key : Int) (txt : ByteArray) : ((w.alloc o).alloc (.cells #[.int .i64 key, .string txt] 55)).ownsRow w.heap.size 55 2 (.slice (some ⟨w.heap.size + 1, 0, none⟩) 1 1) 1 (rcl [(key, txt)]) := by
  have hz : (w.alloc o).heap.size = w.heap.size + 1 := by simp
  have h := heap_alloc_new (w.alloc o) (.cells #[.int .i64 key, .string txt] 55)
  rw [hz] at h
  exact ⟨rfl, .inr ⟨w.heap.size + 1, 1, #[.int .i64 key, .string txt], rfl, by omega, h, Nat.le_refl _, by decide, rfl, rfl⟩⟩

theorem alone_yes (key : Int) (txt : ByteArray) (w : World) : Calls Try.prog 41 #[.agg #[.int .i64 key, .string txt], .bool true] w fun e w' => ∃ v', e = .returned (.tuple #[v', .int .i64 0]) ∧ w'.ownsRow w.heap.size 55 2 v' 1 (rcl [(key, txt)]) ∧ Kept w w' [] := by
  go_enter Try.func41, Try.ntmps41
  go_wp2
  go_ret2
  exact ⟨_, rfl, oneRow _ key txt, ((Kept.refl w []).alloc _).alloc _⟩

theorem Put.after {W : World} {ks : List Int} {F : Int → List Vr} (hk : Kept w W []) (h : Put W w' B p b v st L i t ks F) : Put w w' B p b v st L i t ks F := by
  obtain ⟨O', s, f, g⟩ := h
  exact ⟨O', s, (Fo.ofKept hk _).trans f, fun k hk' => (g k hk').imp id (fun h => Nat.le_trans hk.size h)⟩

theorem set_same {α : Type} {L : List α} {i : Nat} {t : α} (ht : L[i]? = some t) : L.set i t = L := by
  apply List.ext_getElem?
  intro j
  by_cases e : i = j
  · subst e
    have hl : i < L.length := by
      rcases Nat.lt_or_ge i L.length with q | q
      · exact q
      · rw [List.getElem?_eq_none q] at ht; cases ht
    rw [List.getElem?_set_self hl, ht]
  · rw [List.getElem?_set_ne e]

theorem Put.same (a : Sm w B p b v st L) (ht : L[i]? = some t) (hk : Kept w w' []) : Put w w' B p b v st L i t t.ks t.F := by
  refine ⟨t.O, ?_, ?_⟩
  · rw [set_same ht]; exact a.keep hk
  · rw [set_same ht]; exact ⟨Fo.ofKept hk _, fun _ h => .inl h⟩

set_option maxHeartbeats 1000000 in
set_option maxRecDepth 100000 in
theorem put_any (a : Sm w B p b v st L) (ht : L[i]? = some t) (mx own : Int) (u : Option Addr) (n c : Nat) (opl : List Int) (hv : Vo w (.slice u n c) opl) (ho : (Lit.int .i64 own).wf = true) (kind : Nat) (hkd : kind = 1 ∨ kind = 2) (tb key : Int) (txt : ByteArray) (hk : (Lit.int .i64 key).wf = true) (hks : t.ks.length < 1000000) (hF : (t.F key).length < 1000000) :
    Calls Try.prog 38 #[.pointer (some ⟨t.h, 0, none⟩), .agg #[.int .i64 mx, .slice u n c, .int .i64 own], .agg #[.int .u8 kind, .int .i64 tb, .int .i64 key, .string txt]] w fun e w' => e = .returned (.int .i64 (putH st ⟨mx, opl, own⟩ kind key txt t.tab).1) ∧
      Put w w' B p b v st L i t (putH st ⟨mx, opl, own⟩ kind key txt t.tab).2.ks (putH st ⟨mx, opl, own⟩ kind key txt t.tab).2.F := by
  have k2 : ∀ o1 o2, Kept w ((w.alloc o1).alloc o2) [] := fun _ _ => ((Kept.refl w []).alloc _).alloc _
  have CI : Hid (∀ o1 o2, Calls Try.prog 56 #[.pointer (some ⟨t.h, 0, none⟩), .agg #[.int .i64 mx, .slice u n c, .int .i64 own], .agg #[.int .i64 key, .string txt]] ((w.alloc o1).alloc o2) fun e w' => e = .returned (.int .i64 (insE st ⟨mx, opl, own⟩ (t.F key))) ∧
      Put w w' B p b v st L i t (putK (insE st ⟨mx, opl, own⟩ (t.F key)) key t.ks) (putF (insE st ⟨mx, opl, own⟩ (t.F key)) key ⟨txt, own, 0⟩ t.F)) := Lib.hid (fun o1 o2 =>
    (insert_sm (a.keep (k2 o1 o2)) ht mx own u n c opl (hv.keep (k2 o1 o2)) ho key txt hk hks hF).mono (fun _ _ h => ⟨h.1, .after (k2 o1 o2) h.2⟩))
  have CU : Hid (∀ o1 o2, Calls Try.prog 57 #[.pointer (some ⟨t.h, 0, none⟩), .agg #[.int .i64 mx, .slice u n c, .int .i64 own], .agg #[.int .i64 key, .string txt]] ((w.alloc o1).alloc o2) fun e w' => e = .returned (.int .i64 (delL st ⟨mx, opl, own⟩ (t.F key)).1) ∧
      Put w w' B p b v st L i t (putK (delL st ⟨mx, opl, own⟩ (t.F key)).1 key t.ks) (putF (delL st ⟨mx, opl, own⟩ (t.F key)).1 key ⟨txt, own, 0⟩ (updF t.F key (delL st ⟨mx, opl, own⟩ (t.F key)).2))) := Lib.hid (fun o1 o2 =>
    (update_sm (a.keep (k2 o1 o2)) ht mx own u n c opl (hv.keep (k2 o1 o2)) ho key txt hk hks hF).mono (fun _ _ h => ⟨h.1, .after (k2 o1 o2) h.2⟩))
  have A := Lib.hid a; have HT := Lib.hid ht; have KK := Lib.hid k2
  clear a ht hv ho hk hks hF k2
  by_cases h40 : 40 < txt.size
  · have E : Hid (putH st ⟨mx, opl, own⟩ kind key txt t.tab = (1, t.tab)) := Lib.hid (by rw [putH, if_pos h40])
    have x1 : (40 : Int) < (txt.size : Int) := by omega
    clear h40 CI CU
    go_enter Try.func38, Try.ntmps38
    go_wp2
    go_ret
    rw [E.out]
    exact ⟨rfl, .same A.out HT.out (KK.out _ _)⟩
  · have x1 : ¬ (40 : Int) < (txt.size : Int) := by omega
    rcases hkd with rfl | rfl
    · have E : Hid (putH st ⟨mx, opl, own⟩ 1 key txt t.tab = (insE st ⟨mx, opl, own⟩ (t.F key), ⟨putK (insE st ⟨mx, opl, own⟩ (t.F key)) key t.ks, putF (insE st ⟨mx, opl, own⟩ (t.F key)) key ⟨txt, own, 0⟩ t.F⟩)) := Lib.hid (by rw [putH, if_neg h40, if_pos rfl]; rfl)
      clear h40 CU
      go_enter Try.func38, Try.ntmps38
      go_wp2_with fail
      refine (CI.out _ _).mono ?_
      rintro e w2 ⟨rfl, q⟩
      have Q := Lib.hid q
      clear q
      go_wp2
      go_ret
      rw [E.out]
      exact ⟨rfl, Q.out⟩
    · have E : Hid (putH st ⟨mx, opl, own⟩ 2 key txt t.tab = ((delL st ⟨mx, opl, own⟩ (t.F key)).1, ⟨putK (delL st ⟨mx, opl, own⟩ (t.F key)).1 key t.ks, putF (delL st ⟨mx, opl, own⟩ (t.F key)).1 key ⟨txt, own, 0⟩ (updF t.F key (delL st ⟨mx, opl, own⟩ (t.F key)).2)⟩)) := Lib.hid (by rw [putH, if_neg h40, if_neg (by decide)]; rfl)
      clear h40 CI
      go_enter Try.func38, Try.ntmps38
      go_wp2_with fail
      refine (CU.out _ _).mono ?_
      rintro e w2 ⟨rfl, q⟩
      have Q := Lib.hid q
      clear q
      go_wp2
      go_ret
      rw [E.out]
      exact ⟨rfl, Q.out⟩

/-- What a call on one table leaves of the store. -/
theorem Put.sto {sv : Value} {ks : List Int} {F : Int → List Vr} (a : Sm w B p b v st L) (c : Sc w B r sv L) (ht : L[i]? = some t) (q : Put w w' B p b v st L i t ks F) :
    ∃ O', Sto w' B p r O' st ((L.map Hq.tab).set i ⟨ks, F⟩) ∧ Stp (sfoot p b r v sv L) O' w w' := by
  obtain ⟨O', s, f⟩ := q
  obtain ⟨s1, s2⟩ := Sto.turn a c s (hps_set ht) f
  rw [List.map_set] at s1
  exact ⟨_, s1, s2⟩

/-- What a call leaves that changes nothing. -/
theorem Sto.still {sv : Value} (a : Sm w B p b v st L) (c : Sc w B r sv L) (hk : Kept w w' []) : ∃ O', Sto w' B p r O' st (L.map Hq.tab) ∧ Stp (sfoot p b r v sv L) O' w w' :=
  ⟨_, ⟨b, v, sv, L, a.keep hk, c.fo (Fo.ofKept hk (fun _ => False)) (fun h => h) (fun _ _ h => h), rfl, rfl⟩, Fo.ofKept hk _, fun _ h => .inl h⟩

/-- The tables have no more than so much. -/
def Few (N : Nat) (T : List Tab) : Prop := ∀ t ∈ T, t.ks.length ≤ N ∧ ∀ k, (t.F k).length ≤ N

end Go.Proofs.Ytdjhcdgehmpikaa
