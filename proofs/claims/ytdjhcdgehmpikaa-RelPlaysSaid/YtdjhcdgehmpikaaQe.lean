/-
  Run: its walk.
-/
import Derived.Test.YtdjhcdgehmpikaaQd
namespace Go.Proofs.Ytdjhcdgehmpikaa
set_option linter.unusedVariables false
open Go.RowKit Go.Maps Go.Sort Go.Shelf

variable {w : World} {B p b r : Nat} {v : Value} {st : List Nat} {L : List Hq} {i : Nat} {t : Hq}

theorem run_nil (kind tb key : Int) (txt : ByteArray) (mx own : Int) (sl : Value) (w : World) :
    Calls Try.prog 21 #[.pointer none, .agg #[.int .i64 mx, sl, .int .i64 own], .agg #[.int .u8 kind, .int .i64 tb, .int .i64 key, .string txt]] w fun e w' => e = .returned (.tuple #[.slice none 0 0, .int .i64 4]) ∧ Kept w w' [] := by
  go_enter Try.func21, Try.ntmps21
  go_wp2
  go_ret2
  exact ⟨rfl, ((Kept.refl w []).alloc _).alloc _⟩

/-- What a statement leaves. -/
def RunPost (w : World) (B p r : Nat) (O : Nat → Prop) (st : List Nat) (E : Int) (R : List (Int × ByteArray)) (T : List Tab) (e : Ending) (w' : World) : Prop :=
  ∃ v', e = .returned (.tuple #[v', .int .i64 E]) ∧ w'.ownsRow w.heap.size 55 2 v' R.length (rcl R) ∧ ∃ O', Sto w' B p r O' st T ∧ Stp O O' w w'

set_option maxHeartbeats 1000000 in
set_option maxRecDepth 100000 in
theorem run_out {sv : Value} (a : Sm w B p b v st L) (c : Sc w B r sv L) (mx own : Int) (u : Option Addr) (n m : Nat) (kind : Nat) (tb : Int) (htb : (Lit.int .i64 tb).wf = true) (key : Int) (txt : ByteArray) (hb : hpAt L tb = .pointer none) :
    Calls Try.prog 21 #[.pointer (some ⟨r, 0, none⟩), .agg #[.int .i64 mx, .slice u n m, .int .i64 own], .agg #[.int .u8 kind, .int .i64 tb, .int .i64 key, .string txt]] w fun e w' => RunPost w B p r (sfoot p b r v sv L) st 1 [] (L.map Hq.tab) e w' := by
  have k2 : ∀ o1 o2, Kept w ((w.alloc o1).alloc o2) [] := fun _ _ => ((Kept.refl w []).alloc _).alloc _
  have CH : Hid (∀ o1 o2, Calls Try.prog 30 #[.pointer (some ⟨r, 0, none⟩), .int .i64 tb] ((w.alloc o1).alloc o2) fun e w' => e = .returned (.pointer none) ∧ (w.alloc o1).alloc o2 = w') := Lib.hid (fun o1 o2 => by
    have := heap_at (c.fo (Fo.ofKept (k2 o1 o2) (fun _ => False)) (fun h => h) (fun _ _ h => h)) tb htb
    rw [hb] at this
    exact this)
  have A := Lib.hid a; have C := Lib.hid c; have KK := Lib.hid k2
  clear a c k2 hb htb
  go_enter Try.func21, Try.ntmps21
  go_wp2_with fail
  refine (CH.out _ _).mono ?_
  rintro e w2 ⟨rfl, rfl⟩
  go_wp2
  go_ret2
  exact ⟨_, rfl, World.ownsRow_nil _ _ _ _, Sto.still A.out C.out (KK.out _ _)⟩

set_option maxHeartbeats 1000000 in
set_option maxRecDepth 100000 in
theorem run_put1 {sv : Value} (a : Sm w B p b v st L) (c : Sc w B r sv L) (ht : L[i]? = some t) (mx own : Int) (u : Option Addr) (n m : Nat) (opl : List Int) (hv : Vo w (.slice u n m) opl) (ho : (Lit.int .i64 own).wf = true) (htb : (Lit.int .i64 (i : Int)).wf = true) (key : Int) (txt : ByteArray) (hk : (Lit.int .i64 key).wf = true) (N : Nat) (hN : t.ks.length ≤ N ∧ (∀ k, (t.F k).length ≤ N) ∧ N ≤ 900) :
    Calls Try.prog 21 #[.pointer (some ⟨r, 0, none⟩), .agg #[.int .i64 mx, .slice u n m, .int .i64 own], .agg #[.int .u8 1, .int .i64 i, .int .i64 key, .string txt]] w fun e w' => RunPost w B p r (sfoot p b r v sv L) st (runH st ⟨mx, opl, own⟩ 1 key txt t.tab).e (runH st ⟨mx, opl, own⟩ 1 key txt t.tab).rows ((L.map Hq.tab).set i (runH st ⟨mx, opl, own⟩ 1 key txt t.tab).tab) e w' := by
  have k2 : ∀ o1 o2, Kept w ((w.alloc o1).alloc o2) [] := fun _ _ => ((Kept.refl w []).alloc _).alloc _
  have CH : Hid (∀ o1 o2, Calls Try.prog 30 #[.pointer (some ⟨r, 0, none⟩), .int .i64 i] ((w.alloc o1).alloc o2) fun e w' => e = .returned (.pointer (some ⟨t.h, 0, none⟩)) ∧ (w.alloc o1).alloc o2 = w') := Lib.hid (fun o1 o2 => by
    have := heap_at (c.fo (Fo.ofKept (k2 o1 o2) (fun _ => False)) (fun h => h) (fun _ _ h => h)) i htb
    have e0 : hpAt L (i : Int) = .pointer (some ⟨t.h, 0, none⟩) := by rw [hpAt, if_pos (by omega), Int.toNat_natCast, ht]
    rw [e0] at this
    exact this)
  have CP : Hid (∀ o1 o2, Calls Try.prog 38 #[.pointer (some ⟨t.h, 0, none⟩), .agg #[.int .i64 mx, .slice u n m, .int .i64 own], .agg #[.int .u8 1, .int .i64 i, .int .i64 key, .string txt]] ((w.alloc o1).alloc o2) fun e w' => e = .returned (.int .i64 (putH st ⟨mx, opl, own⟩ 1 key txt t.tab).1) ∧
      Put w w' B p b v st L i t (putH st ⟨mx, opl, own⟩ 1 key txt t.tab).2.ks (putH st ⟨mx, opl, own⟩ 1 key txt t.tab).2.F) := Lib.hid (fun o1 o2 =>
    (put_any (a.keep (k2 o1 o2)) ht mx own u n m opl (hv.keep (k2 o1 o2)) ho 1 (by decide) i key txt hk (by omega) (by have := hN.2.1 key; omega)).mono (fun _ _ h => ⟨h.1, .after (k2 o1 o2) h.2⟩))
  have E : Hid (runH st ⟨mx, opl, own⟩ 1 key txt t.tab = ⟨(putH st ⟨mx, opl, own⟩ 1 key txt t.tab).1, [], (putH st ⟨mx, opl, own⟩ 1 key txt t.tab).2⟩) := Lib.hid (by rw [runH, if_pos (by decide)])
  have A := Lib.hid a; have C := Lib.hid c; have KK := Lib.hid k2; have HT := Lib.hid ht
  clear a c k2 ht htb hv ho hk hN
  go_enter Try.func21, Try.ntmps21
  go_wp2_with fail
  refine (CH.out _ _).mono ?_
  rintro e w2 ⟨rfl, rfl⟩
  go_wp2_with fail
  refine (CP.out _ _).mono ?_
  rintro e w3 ⟨rfl, q⟩
  have Q := Lib.hid q
  clear q
  go_wp2
  go_ret2
  rw [E.out]
  exact ⟨_, rfl, World.ownsRow_nil _ _ _ _, Q.out.sto A.out C.out HT.out⟩

set_option maxHeartbeats 1000000 in
set_option maxRecDepth 100000 in
theorem run_put2 {sv : Value} (a : Sm w B p b v st L) (c : Sc w B r sv L) (ht : L[i]? = some t) (mx own : Int) (u : Option Addr) (n m : Nat) (opl : List Int) (hv : Vo w (.slice u n m) opl) (ho : (Lit.int .i64 own).wf = true) (htb : (Lit.int .i64 (i : Int)).wf = true) (key : Int) (txt : ByteArray) (hk : (Lit.int .i64 key).wf = true) (N : Nat) (hN : t.ks.length ≤ N ∧ (∀ k, (t.F k).length ≤ N) ∧ N ≤ 900) :
    Calls Try.prog 21 #[.pointer (some ⟨r, 0, none⟩), .agg #[.int .i64 mx, .slice u n m, .int .i64 own], .agg #[.int .u8 2, .int .i64 i, .int .i64 key, .string txt]] w fun e w' => RunPost w B p r (sfoot p b r v sv L) st (runH st ⟨mx, opl, own⟩ 2 key txt t.tab).e (runH st ⟨mx, opl, own⟩ 2 key txt t.tab).rows ((L.map Hq.tab).set i (runH st ⟨mx, opl, own⟩ 2 key txt t.tab).tab) e w' := by
  have k2 : ∀ o1 o2, Kept w ((w.alloc o1).alloc o2) [] := fun _ _ => ((Kept.refl w []).alloc _).alloc _
  have CH : Hid (∀ o1 o2, Calls Try.prog 30 #[.pointer (some ⟨r, 0, none⟩), .int .i64 i] ((w.alloc o1).alloc o2) fun e w' => e = .returned (.pointer (some ⟨t.h, 0, none⟩)) ∧ (w.alloc o1).alloc o2 = w') := Lib.hid (fun o1 o2 => by
    have := heap_at (c.fo (Fo.ofKept (k2 o1 o2) (fun _ => False)) (fun h => h) (fun _ _ h => h)) i htb
    have e0 : hpAt L (i : Int) = .pointer (some ⟨t.h, 0, none⟩) := by rw [hpAt, if_pos (by omega), Int.toNat_natCast, ht]
    rw [e0] at this
    exact this)
  have CP : Hid (∀ o1 o2, Calls Try.prog 38 #[.pointer (some ⟨t.h, 0, none⟩), .agg #[.int .i64 mx, .slice u n m, .int .i64 own], .agg #[.int .u8 2, .int .i64 i, .int .i64 key, .string txt]] ((w.alloc o1).alloc o2) fun e w' => e = .returned (.int .i64 (putH st ⟨mx, opl, own⟩ 2 key txt t.tab).1) ∧
      Put w w' B p b v st L i t (putH st ⟨mx, opl, own⟩ 2 key txt t.tab).2.ks (putH st ⟨mx, opl, own⟩ 2 key txt t.tab).2.F) := Lib.hid (fun o1 o2 =>
    (put_any (a.keep (k2 o1 o2)) ht mx own u n m opl (hv.keep (k2 o1 o2)) ho 2 (by decide) i key txt hk (by omega) (by have := hN.2.1 key; omega)).mono (fun _ _ h => ⟨h.1, .after (k2 o1 o2) h.2⟩))
  have E : Hid (runH st ⟨mx, opl, own⟩ 2 key txt t.tab = ⟨(putH st ⟨mx, opl, own⟩ 2 key txt t.tab).1, [], (putH st ⟨mx, opl, own⟩ 2 key txt t.tab).2⟩) := Lib.hid (by rw [runH, if_pos (by decide)])
  have A := Lib.hid a; have C := Lib.hid c; have KK := Lib.hid k2; have HT := Lib.hid ht
  clear a c k2 ht htb hv ho hk hN
  go_enter Try.func21, Try.ntmps21
  go_wp2_with fail
  refine (CH.out _ _).mono ?_
  rintro e w2 ⟨rfl, rfl⟩
  go_wp2_with fail
  refine (CP.out _ _).mono ?_
  rintro e w3 ⟨rfl, q⟩
  have Q := Lib.hid q
  clear q
  go_wp2
  go_ret2
  rw [E.out]
  exact ⟨_, rfl, World.ownsRow_nil _ _ _ _, Q.out.sto A.out C.out HT.out⟩

set_option maxHeartbeats 1000000 in
set_option maxRecDepth 100000 in
theorem run_del {sv : Value} (a : Sm w B p b v st L) (c : Sc w B r sv L) (ht : L[i]? = some t) (mx own : Int) (u : Option Addr) (n m : Nat) (opl : List Int) (hv : Vo w (.slice u n m) opl) (ho : (Lit.int .i64 own).wf = true) (htb : (Lit.int .i64 (i : Int)).wf = true) (key : Int) (txt : ByteArray) (hk : (Lit.int .i64 key).wf = true) (N : Nat) (hN : t.ks.length ≤ N ∧ (∀ k, (t.F k).length ≤ N) ∧ N ≤ 900) :
    Calls Try.prog 21 #[.pointer (some ⟨r, 0, none⟩), .agg #[.int .i64 mx, .slice u n m, .int .i64 own], .agg #[.int .u8 3, .int .i64 i, .int .i64 key, .string txt]] w fun e w' => RunPost w B p r (sfoot p b r v sv L) st (runH st ⟨mx, opl, own⟩ 3 key txt t.tab).e (runH st ⟨mx, opl, own⟩ 3 key txt t.tab).rows ((L.map Hq.tab).set i (runH st ⟨mx, opl, own⟩ 3 key txt t.tab).tab) e w' := by
  have k2 : ∀ o1 o2, Kept w ((w.alloc o1).alloc o2) [] := fun _ _ => ((Kept.refl w []).alloc _).alloc _
  have CH : Hid (∀ o1 o2, Calls Try.prog 30 #[.pointer (some ⟨r, 0, none⟩), .int .i64 i] ((w.alloc o1).alloc o2) fun e w' => e = .returned (.pointer (some ⟨t.h, 0, none⟩)) ∧ (w.alloc o1).alloc o2 = w') := Lib.hid (fun o1 o2 => by
    have := heap_at (c.fo (Fo.ofKept (k2 o1 o2) (fun _ => False)) (fun h => h) (fun _ _ h => h)) i htb
    have e0 : hpAt L (i : Int) = .pointer (some ⟨t.h, 0, none⟩) := by rw [hpAt, if_pos (by omega), Int.toNat_natCast, ht]
    rw [e0] at this
    exact this)
  have CP : Hid (∀ o1 o2, Calls Try.prog 39 #[.pointer (some ⟨t.h, 0, none⟩), .agg #[.int .i64 mx, .slice u n m, .int .i64 own], .int .i64 key] ((w.alloc o1).alloc o2) fun e w' => e = .returned (.int .i64 (delL st ⟨mx, opl, own⟩ (t.F key)).1) ∧
      Put w w' B p b v st L i t t.ks (updF t.F key (delL st ⟨mx, opl, own⟩ (t.F key)).2)) := Lib.hid (fun o1 o2 =>
    (delete_sm (a.keep (k2 o1 o2)) ht mx own u n m opl (hv.keep (k2 o1 o2)) ho key hk).mono (fun _ _ h => ⟨h.1, .after (k2 o1 o2) h.2⟩))
  have E : Hid (runH st ⟨mx, opl, own⟩ 3 key txt t.tab = ⟨(delL st ⟨mx, opl, own⟩ (t.F key)).1, [], ⟨t.ks, updF t.F key (delL st ⟨mx, opl, own⟩ (t.F key)).2⟩⟩) := Lib.hid (by rw [runH, if_neg (by decide), if_pos (by decide)]; rfl)
  have A := Lib.hid a; have C := Lib.hid c; have KK := Lib.hid k2; have HT := Lib.hid ht
  clear a c k2 ht htb hv ho hk hN
  go_enter Try.func21, Try.ntmps21
  go_wp2_with fail
  refine (CH.out _ _).mono ?_
  rintro e w2 ⟨rfl, rfl⟩
  go_wp2_with fail
  refine (CP.out _ _).mono ?_
  rintro e w3 ⟨rfl, q⟩
  have Q := Lib.hid q
  clear q
  go_wp2
  go_ret2
  rw [E.out]
  exact ⟨_, rfl, World.ownsRow_nil _ _ _ _, Q.out.sto A.out C.out HT.out⟩

set_option maxHeartbeats 1000000 in
set_option maxRecDepth 100000 in
theorem run_tru {sv : Value} (a : Sm w B p b v st L) (c : Sc w B r sv L) (ht : L[i]? = some t) (mx own : Int) (u : Option Addr) (n m : Nat) (opl : List Int) (hv : Vo w (.slice u n m) opl) (ho : (Lit.int .i64 own).wf = true) (htb : (Lit.int .i64 (i : Int)).wf = true) (key : Int) (txt : ByteArray) (hk : (Lit.int .i64 key).wf = true) (N : Nat) (hN : t.ks.length ≤ N ∧ (∀ k, (t.F k).length ≤ N) ∧ N ≤ 900) :
    Calls Try.prog 21 #[.pointer (some ⟨r, 0, none⟩), .agg #[.int .i64 mx, .slice u n m, .int .i64 own], .agg #[.int .u8 4, .int .i64 i, .int .i64 key, .string txt]] w fun e w' => RunPost w B p r (sfoot p b r v sv L) st (runH st ⟨mx, opl, own⟩ 4 key txt t.tab).e (runH st ⟨mx, opl, own⟩ 4 key txt t.tab).rows ((L.map Hq.tab).set i (runH st ⟨mx, opl, own⟩ 4 key txt t.tab).tab) e w' := by
  have k2 : ∀ o1 o2, Kept w ((w.alloc o1).alloc o2) [] := fun _ _ => ((Kept.refl w []).alloc _).alloc _
  have CH : Hid (∀ o1 o2, Calls Try.prog 30 #[.pointer (some ⟨r, 0, none⟩), .int .i64 i] ((w.alloc o1).alloc o2) fun e w' => e = .returned (.pointer (some ⟨t.h, 0, none⟩)) ∧ (w.alloc o1).alloc o2 = w') := Lib.hid (fun o1 o2 => by
    have := heap_at (c.fo (Fo.ofKept (k2 o1 o2) (fun _ => False)) (fun h => h) (fun _ _ h => h)) i htb
    have e0 : hpAt L (i : Int) = .pointer (some ⟨t.h, 0, none⟩) := by rw [hpAt, if_pos (by omega), Int.toNat_natCast, ht]
    rw [e0] at this
    exact this)
  have CP : Hid (∀ o1 o2, Calls Try.prog 40 #[.pointer (some ⟨t.h, 0, none⟩), .agg #[.int .i64 mx, .slice u n m, .int .i64 own]] ((w.alloc o1).alloc o2) fun e w' => ∃ v', e = .returned (.tuple #[v', .int .i64 (truE st ⟨mx, opl, own⟩ t.ks t.F)]) ∧ w'.ownsRow w.heap.size 55 2 v' (truR st ⟨mx, opl, own⟩ t.ks t.F).length (rcl (truR st ⟨mx, opl, own⟩ t.ks t.F)) ∧
      Put w w' B p b v st L i t t.ks (truF st ⟨mx, opl, own⟩ t.ks t.F)) := Lib.hid (fun o1 o2 =>
    (truncate_sm (a.keep (k2 o1 o2)) ht mx own u n m opl (hv.keep (k2 o1 o2)) ho N hN).mono (by rintro e w' ⟨v', rfl, h1, h2⟩; exact ⟨v', rfl, ownsRow_low h1 (k2 o1 o2).size, .after (k2 o1 o2) h2⟩))
  have E : Hid (runH st ⟨mx, opl, own⟩ 4 key txt t.tab = ⟨truE st ⟨mx, opl, own⟩ t.ks t.F, truR st ⟨mx, opl, own⟩ t.ks t.F, ⟨t.ks, truF st ⟨mx, opl, own⟩ t.ks t.F⟩⟩) := Lib.hid (by rw [runH, if_neg (by decide), if_neg (by decide), if_pos (by decide)]; rfl)
  have A := Lib.hid a; have C := Lib.hid c; have KK := Lib.hid k2; have HT := Lib.hid ht
  clear a c k2 ht htb hv ho hk hN
  go_enter Try.func21, Try.ntmps21
  go_wp2_with fail
  refine (CH.out _ _).mono ?_
  rintro e w2 ⟨rfl, rfl⟩
  go_wp2_with fail
  refine (CP.out _ _).mono ?_
  rintro e w3 ⟨v3, rfl, o3, q⟩
  have Q := Lib.hid q; have O3 := Lib.hid o3
  clear q o3
  go_wp2
  go_ret2
  rw [E.out]
  exact ⟨_, rfl, O3.out, Q.out.sto A.out C.out HT.out⟩

set_option maxHeartbeats 1000000 in
set_option maxRecDepth 100000 in
theorem run_get {sv : Value} (a : Sm w B p b v st L) (c : Sc w B r sv L) (ht : L[i]? = some t) (mx own : Int) (u : Option Addr) (n m : Nat) (opl : List Int) (hv : Vo w (.slice u n m) opl) (ho : (Lit.int .i64 own).wf = true) (htb : (Lit.int .i64 (i : Int)).wf = true) (key : Int) (txt : ByteArray) (hk : (Lit.int .i64 key).wf = true) (N : Nat) (hN : t.ks.length ≤ N ∧ (∀ k, (t.F k).length ≤ N) ∧ N ≤ 900) :
    Calls Try.prog 21 #[.pointer (some ⟨r, 0, none⟩), .agg #[.int .i64 mx, .slice u n m, .int .i64 own], .agg #[.int .u8 5, .int .i64 i, .int .i64 key, .string txt]] w fun e w' => RunPost w B p r (sfoot p b r v sv L) st (runH st ⟨mx, opl, own⟩ 5 key txt t.tab).e (runH st ⟨mx, opl, own⟩ 5 key txt t.tab).rows ((L.map Hq.tab).set i (runH st ⟨mx, opl, own⟩ 5 key txt t.tab).tab) e w' := by
  have k2 : ∀ o1 o2, Kept w ((w.alloc o1).alloc o2) [] := fun _ _ => ((Kept.refl w []).alloc _).alloc _
  have CH : Hid (∀ o1 o2, Calls Try.prog 30 #[.pointer (some ⟨r, 0, none⟩), .int .i64 i] ((w.alloc o1).alloc o2) fun e w' => e = .returned (.pointer (some ⟨t.h, 0, none⟩)) ∧ (w.alloc o1).alloc o2 = w') := Lib.hid (fun o1 o2 => by
    have := heap_at (c.fo (Fo.ofKept (k2 o1 o2) (fun _ => False)) (fun h => h) (fun _ _ h => h)) i htb
    have e0 : hpAt L (i : Int) = .pointer (some ⟨t.h, 0, none⟩) := by rw [hpAt, if_pos (by omega), Int.toNat_natCast, ht]
    rw [e0] at this
    exact this)
  have CP : Hid (∀ o1 o2, Calls Try.prog 42 #[.pointer (some ⟨t.h, 0, none⟩), .agg #[.int .i64 mx, .slice u n m, .int .i64 own], .int .i64 key] ((w.alloc o1).alloc o2) fun e w' => e = .returned (getT st ⟨mx, opl, own⟩ key (t.F key)) ∧ Kept w w' []) := Lib.hid (fun o1 o2 =>
    (get_sm (a.keep (k2 o1 o2)) ht mx own u n m opl (hv.keep (k2 o1 o2)) key hk).mono (fun _ _ h => ⟨h.1, (k2 o1 o2).trans h.2 (by simp)⟩))
  have ES : Hid ((L.map Hq.tab).set i t.tab = L.map Hq.tab) := Lib.hid (set_same (by rw [List.getElem?_map, ht]; rfl))
  have E : Hid (runH st ⟨mx, opl, own⟩ 5 key txt t.tab = getH st ⟨mx, opl, own⟩ key t.tab) := Lib.hid (by rw [runH, if_neg (by decide), if_neg (by decide), if_neg (by decide), if_pos (by decide)])
  have G : Hid ((getT st ⟨mx, opl, own⟩ key (t.F key) = .tuple #[.agg #[.int .i64 0, .string ⟨#[]⟩], .bool false] ∧ getH st ⟨mx, opl, own⟩ key t.tab = ⟨4, [], t.tab⟩) ∨ ∃ x, getT st ⟨mx, opl, own⟩ key (t.F key) = .tuple #[.agg #[.int .i64 key, .string x], .bool true] ∧ getH st ⟨mx, opl, own⟩ key t.tab = ⟨0, [(key, x)], t.tab⟩) := Lib.hid (by
    unfold getT getH
    have : t.tab.F = t.F := rfl
    rw [this]
    cases (t.F key).findIdx? (sees st ⟨mx, opl, own⟩) with
    | none => exact .inl ⟨rfl, rfl⟩
    | some j =>
      cases hj : (t.F key)[j]? with
      | none => exact .inl ⟨by simp only [hj], by simp only [hj]⟩
      | some q => exact .inr ⟨q.txt, by simp only [hj], by simp only [hj]⟩)
  have A := Lib.hid a; have C := Lib.hid c; have KK := Lib.hid k2; have HT := Lib.hid ht
  clear a c k2 ht htb hv ho hk hN
  rcases G.out with ⟨g1, g2⟩ | ⟨x, g1, g2⟩
  · rw [g1] at CP
    rw [E.out, g2]
    clear g1 g2 G E
    go_enter Try.func21, Try.ntmps21
    go_wp2_with fail
    refine (CH.out _ _).mono ?_
    rintro e w2 ⟨rfl, rfl⟩
    go_wp2_with fail
    refine (CP.out _ _).mono ?_
    rintro e w3 ⟨rfl, k3⟩
    have K3 := Lib.hid k3
    clear k3
    go_wp2_with fail
    refine (alone_no 0 ⟨#[]⟩ w3).mono ?_
    rintro e w4 ⟨rfl, k4⟩
    have K4 := Lib.hid (K3.out.trans k4 (by simp))
    clear k4
    go_wp2
    go_ret2
    rw [ES.out]
    exact ⟨_, rfl, World.ownsRow_nil _ _ _ _, Sto.still A.out C.out K4.out⟩
  · rw [g1] at CP
    rw [E.out, g2]
    clear g1 g2 G E
    go_enter Try.func21, Try.ntmps21
    go_wp2_with fail
    refine (CH.out _ _).mono ?_
    rintro e w2 ⟨rfl, rfl⟩
    go_wp2_with fail
    refine (CP.out _ _).mono ?_
    rintro e w3 ⟨rfl, k3⟩
    have K3 := Lib.hid k3
    clear k3
    go_wp2_with fail
    refine (alone_yes key x w3).mono ?_
    rintro e w4 ⟨v4, rfl, o4, k4⟩
    have O4 := Lib.hid (ownsRow_low o4 K3.out.size)
    have K4 := Lib.hid (K3.out.trans k4 (by simp))
    clear k4 o4
    go_wp2
    go_ret2
    rw [ES.out]
    exact ⟨_, rfl, O4.out, Sto.still A.out C.out K4.out⟩

set_option maxHeartbeats 1000000 in
set_option maxRecDepth 100000 in
theorem run_scan {sv : Value} (a : Sm w B p b v st L) (c : Sc w B r sv L) (ht : L[i]? = some t) (mx own : Int) (u : Option Addr) (n m : Nat) (opl : List Int) (hv : Vo w (.slice u n m) opl) (ho : (Lit.int .i64 own).wf = true) (htb : (Lit.int .i64 (i : Int)).wf = true) (key : Int) (txt : ByteArray) (hk : (Lit.int .i64 key).wf = true) (N : Nat) (hN : t.ks.length ≤ N ∧ (∀ k, (t.F k).length ≤ N) ∧ N ≤ 900) :
    Calls Try.prog 21 #[.pointer (some ⟨r, 0, none⟩), .agg #[.int .i64 mx, .slice u n m, .int .i64 own], .agg #[.int .u8 6, .int .i64 i, .int .i64 key, .string txt]] w fun e w' => RunPost w B p r (sfoot p b r v sv L) st (runH st ⟨mx, opl, own⟩ 6 key txt t.tab).e (runH st ⟨mx, opl, own⟩ 6 key txt t.tab).rows ((L.map Hq.tab).set i (runH st ⟨mx, opl, own⟩ 6 key txt t.tab).tab) e w' := by
  have k2 : ∀ o1 o2, Kept w ((w.alloc o1).alloc o2) [] := fun _ _ => ((Kept.refl w []).alloc _).alloc _
  have CH : Hid (∀ o1 o2, Calls Try.prog 30 #[.pointer (some ⟨r, 0, none⟩), .int .i64 i] ((w.alloc o1).alloc o2) fun e w' => e = .returned (.pointer (some ⟨t.h, 0, none⟩)) ∧ (w.alloc o1).alloc o2 = w') := Lib.hid (fun o1 o2 => by
    have := heap_at (c.fo (Fo.ofKept (k2 o1 o2) (fun _ => False)) (fun h => h) (fun _ _ h => h)) i htb
    have e0 : hpAt L (i : Int) = .pointer (some ⟨t.h, 0, none⟩) := by rw [hpAt, if_pos (by omega), Int.toNat_natCast, ht]
    rw [e0] at this
    exact this)
  have CP : Hid (∀ o1 o2, Calls Try.prog 43 #[.pointer (some ⟨t.h, 0, none⟩), .agg #[.int .i64 mx, .slice u n m, .int .i64 own]] ((w.alloc o1).alloc o2) fun e w' => ∃ v', e = .returned v' ∧ w'.ownsRow w.heap.size 55 2 v' (scanR (sees st ⟨mx, opl, own⟩) t.ks t.F).length (rcl (scanR (sees st ⟨mx, opl, own⟩) t.ks t.F)) ∧ Kept w w' []) := Lib.hid (fun o1 o2 =>
    (scan_sm (a.keep (k2 o1 o2)) ht mx own u n m opl (hv.keep (k2 o1 o2)) N hN).mono (by rintro e w' ⟨v', rfl, h1, h2⟩; exact ⟨v', rfl, ownsRow_low h1 (k2 o1 o2).size, (k2 o1 o2).trans h2 (by simp)⟩))
  have ES : Hid ((L.map Hq.tab).set i t.tab = L.map Hq.tab) := Lib.hid (set_same (by rw [List.getElem?_map, ht]; rfl))
  have E : Hid (runH st ⟨mx, opl, own⟩ 6 key txt t.tab = ⟨0, scanR (sees st ⟨mx, opl, own⟩) t.ks t.F, t.tab⟩) := Lib.hid (by rw [runH, if_neg (by decide), if_neg (by decide), if_neg (by decide), if_neg (by decide), if_pos (by decide)]; rfl)
  have A := Lib.hid a; have C := Lib.hid c; have KK := Lib.hid k2; have HT := Lib.hid ht
  clear a c k2 ht htb hv ho hk hN
  go_enter Try.func21, Try.ntmps21
  go_wp2_with fail
  refine (CH.out _ _).mono ?_
  rintro e w2 ⟨rfl, rfl⟩
  go_wp2_with fail
  refine (CP.out _ _).mono ?_
  rintro e w3 ⟨v3, rfl, o3, k3⟩
  have K3 := Lib.hid k3; have O3 := Lib.hid o3
  clear k3 o3
  go_wp2
  go_ret2
  rw [E.out, ES.out]
  exact ⟨_, rfl, O3.out, Sto.still A.out C.out K3.out⟩

set_option maxHeartbeats 1000000 in
set_option maxRecDepth 100000 in
theorem run_kind {sv : Value} (a : Sm w B p b v st L) (c : Sc w B r sv L) (ht : L[i]? = some t) (mx own : Int) (u : Option Addr) (n m : Nat) (opl : List Int) (htb : (Lit.int .i64 (i : Int)).wf = true) (kind : Nat) (hkd : kind = 0 ∨ 7 ≤ kind) (key : Int) (txt : ByteArray) :
    Calls Try.prog 21 #[.pointer (some ⟨r, 0, none⟩), .agg #[.int .i64 mx, .slice u n m, .int .i64 own], .agg #[.int .u8 kind, .int .i64 i, .int .i64 key, .string txt]] w fun e w' => RunPost w B p r (sfoot p b r v sv L) st (runH st ⟨mx, opl, own⟩ kind key txt t.tab).e (runH st ⟨mx, opl, own⟩ kind key txt t.tab).rows ((L.map Hq.tab).set i (runH st ⟨mx, opl, own⟩ kind key txt t.tab).tab) e w' := by
  have k2 : ∀ o1 o2, Kept w ((w.alloc o1).alloc o2) [] := fun _ _ => ((Kept.refl w []).alloc _).alloc _
  have CH : Hid (∀ o1 o2, Calls Try.prog 30 #[.pointer (some ⟨r, 0, none⟩), .int .i64 i] ((w.alloc o1).alloc o2) fun e w' => e = .returned (.pointer (some ⟨t.h, 0, none⟩)) ∧ (w.alloc o1).alloc o2 = w') := Lib.hid (fun o1 o2 => by
    have := heap_at (c.fo (Fo.ofKept (k2 o1 o2) (fun _ => False)) (fun h => h) (fun _ _ h => h)) i htb
    have e0 : hpAt L (i : Int) = .pointer (some ⟨t.h, 0, none⟩) := by rw [hpAt, if_pos (by omega), Int.toNat_natCast, ht]
    rw [e0] at this
    exact this)
  have ES : Hid ((L.map Hq.tab).set i t.tab = L.map Hq.tab) := Lib.hid (set_same (by rw [List.getElem?_map, ht]; rfl))
  have E : Hid (runH st ⟨mx, opl, own⟩ kind key txt t.tab = ⟨1, [], t.tab⟩) := Lib.hid (by rw [runH, if_neg (by omega), if_neg (by omega), if_neg (by omega), if_neg (by omega), if_neg (by omega)])
  have A := Lib.hid a; have C := Lib.hid c; have KK := Lib.hid k2
  have x1 : ¬ (kind : Int) = 1 := by omega
  have x2 : ¬ (kind : Int) = 2 := by omega
  have x3 : ¬ (kind : Int) = 3 := by omega
  have x4 : ¬ (kind : Int) = 4 := by omega
  have x5 : ¬ (kind : Int) = 5 := by omega
  have x6 : ¬ (kind : Int) = 6 := by omega
  clear a c k2 ht htb hkd
  go_enter Try.func21, Try.ntmps21
  go_wp2_with fail
  refine (CH.out _ _).mono ?_
  rintro e w2 ⟨rfl, rfl⟩
  go_wp2
  go_ret2
  rw [E.out, ES.out]
  exact ⟨_, rfl, World.ownsRow_nil _ _ _ _, Sto.still A.out C.out (KK.out _ _)⟩

/-- A statement on a store. -/
theorem run_any {O : Nat → Prop} {T : List Tab} (s : Sto w B p r O st T) (mx own : Int) (u : Option Addr) (n m : Nat) (opl : List Int) (hv : Vo w (.slice u n m) opl) (ho : (Lit.int .i64 own).wf = true) (kind : Nat) (tb : Int) (htb : (Lit.int .i64 tb).wf = true) (key : Int) (txt : ByteArray) (hk : (Lit.int .i64 key).wf = true) (N : Nat) (hN : Few N T) (hN2 : N ≤ 900) :
    Calls Try.prog 21 #[.pointer (some ⟨r, 0, none⟩), .agg #[.int .i64 mx, .slice u n m, .int .i64 own], .agg #[.int .u8 kind, .int .i64 tb, .int .i64 key, .string txt]] w fun e w' => RunPost w B p r O st (runE st ⟨mx, opl, own⟩ kind tb key txt T) (runR st ⟨mx, opl, own⟩ kind tb key txt T) (runT st ⟨mx, opl, own⟩ kind tb key txt T) e w' := by
  obtain ⟨b, v, sv, L, a, c, rfl, rfl⟩ := s
  by_cases h0 : tb < 0
  · rw [runE, runR, runT, if_pos h0, if_pos h0, if_pos h0]
    exact run_out a c mx own u n m kind tb htb key txt (by rw [hpAt, if_neg (by omega)])
  · obtain ⟨i, rfl⟩ : ∃ i : Nat, tb = i := ⟨tb.toNat, by omega⟩
    rw [runE, runR, runT, if_neg h0, if_neg h0, if_neg h0, Int.toNat_natCast]
    cases ht : L[i]? with
    | none =>
      have e1 : (L.map Hq.tab)[i]? = none := by rw [List.getElem?_map, ht]; rfl
      rw [e1]
      exact run_out a c mx own u n m kind i htb key txt (by rw [hpAt, if_pos (by omega), Int.toNat_natCast, ht])
    | some t =>
      have e1 : (L.map Hq.tab)[i]? = some t.tab := by rw [List.getElem?_map, ht]; rfl
      rw [e1]
      have hN3 : t.ks.length ≤ N ∧ (∀ k, (t.F k).length ≤ N) ∧ N ≤ 900 := by
        have := hN t.tab (List.mem_of_getElem? e1)
        exact ⟨this.1, this.2, hN2⟩
      simp only
      by_cases hkd : kind = 0 ∨ 7 ≤ kind
      · exact run_kind a c ht mx own u n m opl htb kind hkd key txt
      · obtain rfl | rfl | rfl | rfl | rfl | rfl : kind = 1 ∨ kind = 2 ∨ kind = 3 ∨ kind = 4 ∨ kind = 5 ∨ kind = 6 := by omega
        · exact run_put1 a c ht mx own u n m opl hv ho htb key txt hk N hN3
        · exact run_put2 a c ht mx own u n m opl hv ho htb key txt hk N hN3
        · exact run_del a c ht mx own u n m opl hv ho htb key txt hk N hN3
        · exact run_tru a c ht mx own u n m opl hv ho htb key txt hk N hN3
        · exact run_get a c ht mx own u n m opl hv ho htb key txt hk N hN3
        · exact run_scan a c ht mx own u n m opl hv ho htb key txt hk N hN3
end Go.Proofs.Ytdjhcdgehmpikaa
