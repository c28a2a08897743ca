/-
  One manager with several heaps: all calls on 'Sm'.
-/
import Derived.Test.YtdjhcdgehmpikaaRa
import Derived.Deep.QuietTactic
import Derived.BigQuiet
namespace Go.Proofs.Ytdjhcdgehmpikaa
open Go.RowKit Go.Maps Go.Sort Go.Shelf

variable {w : World} {B p b : Nat} {v : Value} {st : List Nat} {L : List Hq} {i : Nat} {t : Hq}

/-- What a call on one heap leaves. -/
def Put (w w' : World) (B p b : Nat) (v : Value) (st : List Nat) (L : List Hq) (i : Nat) (t : Hq) (ks : List Int) (F : Int → List Vr) : Prop :=
  ∃ O', Sm w' B p b v st (L.set i ⟨t.h, O', ks, F⟩) ∧ Stp (foots p b v L) (foots p b v (L.set i ⟨t.h, O', ks, F⟩)) w w'

theorem Put.of {mb mb' : Nat} {S S' : Int → Value} {ks' : List Int} {F' : Int → List Vr} {w' : World} (a : Sm w B p b v st L) (ht : L[i]? = some t) (e : t.O = hfoot t.h mb S)
    (x : Sx w' B p t.h b mb' v S' st ks' F') (hf : Fo (foot p b v t.h mb S) w w') (hn : ∀ k, foot p b v t.h mb' S' k → foot p b v t.h mb S k ∨ w.heap.size ≤ k) : Put w w' B p b v st L i t ks' F' := by
  obtain ⟨O', s, st', _, _⟩ := a.put ht e x hf hn
  exact ⟨O', s, st'⟩

theorem begin_sm (a : Sm w B p b v st L) (h1 : (opens st).length < 6) (h2 : st.length + 1 < 1048576) :
    Calls Try.prog 16 #[.pointer (some ⟨p, 0, none⟩)] w fun e w' => e = .returned (.tuple #[.int .i64 ((st.length : Int) + 1), .int .i64 0]) ∧ ∃ v', Sm w' B p b v' (st ++ [1]) L ∧ Stp (foots p b v L) (foots p b v' L) w w' := by
  refine (mbegin_fo a.mg h1 h2).mono ?_
  rintro e w' ⟨rfl, v', m', f', l'⟩
  exact ⟨rfl, v', a.man m' f' l'⟩

theorem commit_sm (a : Sm w B p b v st L) (x : Int) (hx : (Lit.int .i64 x).wf = true) (hb : stAt st x = 1) :
    Calls Try.prog 19 #[.pointer (some ⟨p, 0, none⟩), .int .i64 x] w fun e w' => e = .returned (.int .i64 0) ∧ Sm w' B p b v (st.set (x.toNat - 1) 2) L ∧ Stp (foots p b v L) (foots p b v L) w w' := by
  refine (mcommit_fo a.mg x hx hb).mono ?_
  rintro e w' ⟨rfl, m', f'⟩
  exact ⟨rfl, a.man m' f' (.inl rfl)⟩

theorem now_sm (a : Sm w B p b v st L) :
    Calls Try.prog 28 #[.pointer (some ⟨p, 0, none⟩)] w fun e w' => ∃ u c, e = .returned (.agg #[.int .i64 ((st.length : Int) + 1), .slice u (opens st).length c]) ∧ Vo w' (.slice u (opens st).length c) (opens st) ∧ Kept w w' [] := by
  refine (mnow_any a.mg).mono ?_
  rintro e w' ⟨u, c, rfl, ho, hk⟩
  exact ⟨u, c, rfl, ownsRow_low ho (Nat.zero_le _), hk⟩

theorem insert_sm (a : Sm w B p b v st L) (ht : L[i]? = some t) (mx own : Int) (u : Option Addr) (n c : Nat) (opl : List Int) (hv : Vo w (.slice u n c) opl) (ho : (Lit.int .i64 own).wf = true) (key : Int) (txt : ByteArray) (hk : (Lit.int .i64 key).wf = true) (hks : t.ks.length < 1000000) (hF : (t.F key).length < 1000000) :
    Calls Try.prog 56 #[.pointer (some ⟨t.h, 0, none⟩), .agg #[.int .i64 mx, .slice u n c, .int .i64 own], .agg #[.int .i64 key, .string txt]] w fun e w' => e = .returned (.int .i64 (insE st ⟨mx, opl, own⟩ (t.F key))) ∧
      Put w w' B p b v st L i t (putK (insE st ⟨mx, opl, own⟩ (t.F key)) key t.ks) (putF (insE st ⟨mx, opl, own⟩ (t.F key)) key ⟨txt, own, 0⟩ t.F) := by
  obtain ⟨mb, S, x, e0⟩ := a.sx ht
  refine (insert_any x mx own _ opl hv.rd ho key txt hk hks hF).mono ?_
  rintro e w' ⟨rfl, S', x', f', t'⟩
  exact ⟨rfl, .of a ht e0 x' f' t'⟩

theorem update_sm (a : Sm w B p b v st L) (ht : L[i]? = some t) (mx own : Int) (u : Option Addr) (n c : Nat) (opl : List Int) (hv : Vo w (.slice u n c) opl) (ho : (Lit.int .i64 own).wf = true) (key : Int) (txt : ByteArray) (hk : (Lit.int .i64 key).wf = true) (hks : t.ks.length < 1000000) (hF : (t.F key).length < 1000000) :
    Calls Try.prog 57 #[.pointer (some ⟨t.h, 0, none⟩), .agg #[.int .i64 mx, .slice u n c, .int .i64 own], .agg #[.int .i64 key, .string txt]] w fun e w' => e = .returned (.int .i64 (delL st ⟨mx, opl, own⟩ (t.F key)).1) ∧
      Put w w' B p b v st L i t (putK (delL st ⟨mx, opl, own⟩ (t.F key)).1 key t.ks) (putF (delL st ⟨mx, opl, own⟩ (t.F key)).1 key ⟨txt, own, 0⟩ (updF t.F key (delL st ⟨mx, opl, own⟩ (t.F key)).2)) := by
  obtain ⟨mb, S, x, e0⟩ := a.sx ht
  refine (update_any x mx own _ opl hv.rd ho key txt hk hks hF).mono ?_
  rintro e w' ⟨rfl, S', x', f', t'⟩
  exact ⟨rfl, .of a ht e0 x' f' t'⟩

theorem delete_sm (a : Sm w B p b v st L) (ht : L[i]? = some t) (mx own : Int) (u : Option Addr) (n c : Nat) (opl : List Int) (hv : Vo w (.slice u n c) opl) (ho : (Lit.int .i64 own).wf = true) (key : Int) (hk : (Lit.int .i64 key).wf = true) :
    Calls Try.prog 39 #[.pointer (some ⟨t.h, 0, none⟩), .agg #[.int .i64 mx, .slice u n c, .int .i64 own], .int .i64 key] w fun e w' => e = .returned (.int .i64 (delL st ⟨mx, opl, own⟩ (t.F key)).1) ∧
      Put w w' B p b v st L i t t.ks (updF t.F key (delL st ⟨mx, opl, own⟩ (t.F key)).2) := by
  obtain ⟨mb, S, x, e0⟩ := a.sx ht
  refine (delete_any x mx own _ opl hv.rd ho key hk).mono ?_
  rintro e w' ⟨rfl, x', f'⟩
  exact ⟨rfl, .of a ht e0 x' f' (fun k hk => .inl hk)⟩

theorem truncate_sm (a : Sm w B p b v st L) (ht : L[i]? = some t) (mx own : Int) (u : Option Addr) (n c : Nat) (opl : List Int) (hv : Vo w (.slice u n c) opl) (ho : (Lit.int .i64 own).wf = true) (N : Nat) (hN : t.ks.length ≤ N ∧ (∀ k, (t.F k).length ≤ N) ∧ N ≤ 900) :
    Calls Try.prog 40 #[.pointer (some ⟨t.h, 0, none⟩), .agg #[.int .i64 mx, .slice u n c, .int .i64 own]] w fun e w' => ∃ v', e = .returned (.tuple #[v', .int .i64 (truE st ⟨mx, opl, own⟩ t.ks t.F)]) ∧ w'.ownsRow w.heap.size 55 2 v' (truR st ⟨mx, opl, own⟩ t.ks t.F).length (rcl (truR st ⟨mx, opl, own⟩ t.ks t.F)) ∧
      Put w w' B p b v st L i t t.ks (truF st ⟨mx, opl, own⟩ t.ks t.F) := by
  obtain ⟨mb, S, x, e0⟩ := a.sx ht
  refine (truncate_any x mx own _ opl hv.rd ho N hN).mono ?_
  rintro e w' ⟨v', rfl, ho', x', f'⟩
  exact ⟨v', rfl, ho', .of a ht e0 x' f' (fun k hk => .inl hk)⟩

theorem scan_sm (a : Sm w B p b v st L) (ht : L[i]? = some t) (mx own : Int) (u : Option Addr) (n c : Nat) (opl : List Int) (hv : Vo w (.slice u n c) opl) (N : Nat) (hN : t.ks.length ≤ N ∧ (∀ k, (t.F k).length ≤ N) ∧ N ≤ 900) :
    Calls Try.prog 43 #[.pointer (some ⟨t.h, 0, none⟩), .agg #[.int .i64 mx, .slice u n c, .int .i64 own]] w fun e w' => ∃ v', e = .returned v' ∧ w'.ownsRow w.heap.size 55 2 v' (scanR (sees st ⟨mx, opl, own⟩) t.ks t.F).length (rcl (scanR (sees st ⟨mx, opl, own⟩) t.ks t.F)) ∧ Kept w w' [] :=
  scan_sd (a.sd ht) mx own u n c opl hv N hN

theorem get_sm (a : Sm w B p b v st L) (ht : L[i]? = some t) (mx own : Int) (u : Option Addr) (n c : Nat) (opl : List Int) (hv : Vo w (.slice u n c) opl) (key : Int) (hk : (Lit.int .i64 key).wf = true) :
    Calls Try.prog 42 #[.pointer (some ⟨t.h, 0, none⟩), .agg #[.int .i64 mx, .slice u n c, .int .i64 own], .int .i64 key] w fun e w' => e = .returned (getT st ⟨mx, opl, own⟩ key (t.F key)) ∧ Kept w w' [] :=
  get_sd (a.sd ht) mx own u n c opl hv key hk

/-- One more heap, new. -/
theorem hnew_sm (a : Sm w B p b v st L) :
    Calls Try.prog 32 #[.pointer (some ⟨p, 0, none⟩)] w fun e w' => ∃ h O, e = .returned (.pointer (some ⟨h, 0, none⟩)) ∧ Sm w' B p b v st (L ++ [⟨h, O, [], fun _ => []⟩]) ∧ Kept w w' [] ∧ w.heap.size ≤ h := by
  refine (hnew_any a.mg).mono ?_
  rintro e w' ⟨h, mb, rfl, x, hk, l1, l2⟩
  refine ⟨h, _, rfl, a.more x hk ?_, hk, l1⟩
  rintro k (rfl | rfl | ⟨q, h1⟩)
  · exact l1
  · exact l2
  · cases h1

/-- A manager with no heap yet. -/
theorem Sm.first (m : Mg w B p b v st) : Sm w B p b v st [] := ⟨m, fun _ _ h => by simp at h, fun _ _ h => by simp at h, fun _ _ _ _ h => by simp at h⟩
end Go.Proofs.Ytdjhcdgehmpikaa
