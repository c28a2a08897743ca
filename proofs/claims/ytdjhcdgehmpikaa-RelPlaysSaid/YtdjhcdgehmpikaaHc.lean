/-
  The frame 'Fo O' (of what was there only blocks of O may have turned); Begin, Commit, Abort of a manager under it: so that two managers may stand side by side.
-/
import Derived.Test.YtdjhcdgehmpikaaTe
import Derived.Test.YtdjhcdgehmpikaaHb
namespace Go.Proofs.Ytdjhcdgehmpikaa
open Go.RowKit Go.Maps

/-- Of the blocks that were there only those of O may have turned. -/
structure Fo (O : Nat → Prop) (w w' : World) : Prop where
  os : w'.os = w.os
  tape : w'.tape = w.tape
  output : w'.output = w.output
  size : w.heap.size ≤ w'.heap.size
  block : ∀ k, k < w.heap.size → ¬ O k → w'.heap[k]? = w.heap[k]?

theorem Fo.refl (O : Nat → Prop) (w : World) : Fo O w w := ⟨rfl, rfl, rfl, Nat.le_refl _, fun _ _ _ => rfl⟩
theorem Fo.trans {O : Nat → Prop} {a b c : World} (h : Fo O a b) (k : Fo O b c) : Fo O a c :=
  ⟨k.os.trans h.os, k.tape.trans h.tape, k.output.trans h.output, Nat.le_trans h.size k.size, fun i hi hn => (k.block i (Nat.lt_of_lt_of_le hi h.size) hn).trans (h.block i hi hn)⟩
theorem Fo.ofKept {w w' : World} (h : Kept w w' []) (O : Nat → Prop) : Fo O w w' := ⟨h.os, h.tape, h.output, h.size, fun k hk _ => h.block k hk (by simp)⟩
theorem Fo.mono {O O' : Nat → Prop} {a b : World} (h : Fo O a b) (hs : ∀ k, O k → O' k) : Fo O' a b := ⟨h.os, h.tape, h.output, h.size, fun k hk hn => h.block k hk (fun ho => hn (hs k ho))⟩
theorem Fo.alloc {O : Nat → Prop} {a w : World} (h : Fo O a w) (o : Obj) : Fo O a (w.alloc o) := h.trans (Fo.ofKept ((Kept.refl w []).alloc o) O)
theorem Fo.drewN {O : Nat → Prop} {a w : World} (h : Fo O a w) (n : Nat) : Fo O a (w.drewN n) := ⟨h.os, h.tape, h.output, h.size, h.block⟩
theorem Fo.drew {O : Nat → Prop} {a w : World} (h : Fo O a w) : Fo O a w.drew := ⟨h.os, h.tape, h.output, h.size, h.block⟩
theorem Fo.setCell {O : Nat → Prop} {a w : World} (h : Fo O a w) {p : Addr} (hp : O p.block ∨ a.heap.size ≤ p.block) (u : Value) : Fo O a (w.setCell p u) :=
  ⟨h.os, h.tape, h.output, by have := h.size; simp [World.setCell]; omega, fun k hk hn => (Below.heap_setCell w p u k (by rintro rfl; rcases hp with h1 | h1; exact hn h1; omega)).trans (h.block k hk hn)⟩
theorem Fo.grown {O : Nat → Prop} {a w w' : World} {row : Option Nat} (h : Fo O a w) (hg : w.grownBy w' row) (hr : ∀ k, row = some k → O k ∨ a.heap.size ≤ k) : Fo O a w' :=
  ⟨hg.os.trans h.os, hg.tape.trans h.tape, hg.output.trans h.output, Nat.le_trans h.size hg.size, fun k hk hn =>
    (hg.block k (Nat.lt_of_lt_of_le hk h.size) (fun e => by rcases hr k e.symm with h1 | h1; exact hn h1; omega)).trans (h.block k hk hn)⟩
theorem Fo.turned {O : Nat → Prop} {a w w' : World} {b : Nat} (h : Fo O a w) (ht : w.mapTurned w' b) (hb : O b) : Fo O a w' := h.grown ht.grown (fun k e => by cases e; exact .inl hb)
theorem Fo.below {O : Nat → Prop} {w w' : World} (h : Fo O w w') {B : Nat} (hB : B ≤ w.heap.size) (hO : ∀ k, O k → B ≤ k) : Below B w w' :=
  ⟨h.os, h.tape, h.output, h.size, fun k hk => h.block k (by omega) (fun ho => by have := hO k ho; omega)⟩
theorem Fo.heap {O : Nat → Prop} {w w' : World} (h : Fo O w w') {k : Nat} (hk : ¬ O k) {o : Obj} (ho : w.heap[k]? = some o) : w'.heap[k]? = some o := (h.block k (heap_lt ho) hk).trans ho

/-- A step: only blocks of O have turned, and of those that were there none has come to O. -/
def Stp (O O' : Nat → Prop) (w w' : World) : Prop := Fo O w w' ∧ ∀ k, O' k → O k ∨ w.heap.size ≤ k
theorem Stp.refl (O : Nat → Prop) (w : World) : Stp O O w w := ⟨Fo.refl O w, fun _ h => .inl h⟩
theorem Stp.trans {O O1 O2 : Nat → Prop} {a b c : World} (h : Stp O O1 a b) (k : Stp O1 O2 b c) : Stp O O2 a c := by
  obtain ⟨h1, h2⟩ := h
  obtain ⟨k1, k2⟩ := k
  refine ⟨⟨k1.os.trans h1.os, k1.tape.trans h1.tape, k1.output.trans h1.output, Nat.le_trans h1.size k1.size, fun i hi hn => ?_⟩, fun i hi => ?_⟩
  · refine (k1.block i (Nat.lt_of_lt_of_le hi h1.size) (fun ho => ?_)).trans (h1.block i hi hn)
    rcases h2 i ho with h | h
    · exact hn h
    · omega
  · rcases k2 i hi with h | h
    · exact h2 i h
    · exact .inr (Nat.le_trans h1.size h)

theorem ownsRow_fo {w w' : World} {base e size n : Nat} {O : Nat → Prop} {v : Value} {xs : List Value} (h : w.ownsRow base e size v n xs) (hf : Fo O w w') (he : ∀ g, v.ownBlock = some g → ¬ O g) : w'.ownsRow base e size v n xs := by
  refine ⟨h.1, ?_⟩
  rcases h.2 with h2 | ⟨g, cap, cur, rfl, hbg, hg, r⟩
  · exact .inl h2
  · exact .inr ⟨g, cap, cur, rfl, hbg, hf.heap (he g rfl) hg, r⟩
theorem ownsMap_fo {H : Type} {P : Program} {k : TypeId} {R : Value → Option (DataW H × List MemPlace)} {w w' : World} {b n : Nat} {O : Nat → Prop} {D : DataW H} (h : w.ownsMap P k R b n D) (hf : Fo O w w') (hb : ¬ O b) : w'.ownsMap P k R b n D := by
  obtain ⟨es, c, hm, r⟩ := h
  exact ⟨es, c, hf.heap hb hm, r⟩

/-- A manager's blocks. -/
def mfoot (p b : Nat) (v : Value) : Nat → Prop := fun k => k = p ∨ k = b ∨ v.ownBlock = some k

theorem Mg.fo {w w' : World} {B p b : Nat} {v : Value} {st : List Nat} {O : Nat → Prop} (h : Mg w B p b v st) (hf : Fo O w w') (hd : ∀ k, mfoot p b v k → ¬ O k) : Mg w' B p b v st :=
  { h with hp := hf.heap (hd p (.inl rfl)) h.hp, hm := ownsMap_fo h.hm hf (hd b (.inr (.inl rfl))), hv := ownsRow_fo h.hv hf (fun g hg => hd g (.inr (.inr hg))) }

/-- 'append' onto a slice that the call owns, from any source: its run, and all that may be said of where things lie. -/
theorem run_append_all {P : Program} (w : World) (base : Nat) (t tx ty e : TypeId) (i : TypeInfo) (z : Value) (size bytes : Nat) (ht : P.underlying t = some (.slice e)) (hi : P.info? e = some i) (hz : i.zero = some z)
    (hsize : i.size = size) (hby : i.bytes = bytes) (hzs : z.cells.size = size)
    (v : Value) (n : Nat) (xs : List Value) (hown : w.ownsRow base e size v n xs)
    (x : Value) (m : Nat) (news : List Value) (hsrc : Src P size tx x m news w)
    (h63 : n + m ≤ maxLen) (hbytes : (n + m) * bytes ≤ 140737488355328) (hbase : base ≤ w.heap.size) :
    ∃ v' w', (Builtin.append_ #[t, tx] ty #[v, x]).run P w = .ok v' w' ∧ w'.ownsRow base e size v' (n + m) (xs ++ news) ∧ Fr base [e] w w' ∧ w.grownBy w' v.ownBlock ∧
      (v'.ownBlock = v.ownBlock ∨ ∃ g, v'.ownBlock = some g ∧ w.heap.size ≤ g) := by
  obtain ⟨v1, w1, hr1, ho, hf, hg⟩ := run_append_fr (P := P) w base t tx ty e i z size bytes ht hi hz hsize hby hzs v n xs hown x m news hsrc h63 hbytes hbase
  obtain ⟨v2, w2, hr2, _, _, hl, _⟩ := run_append_src (P := P) w base t tx ty e i z size bytes ht hi hz hsize hby hzs v n xs hown x m news hsrc h63 hbytes hbase
  rw [hr1] at hr2
  simp only [Result.ok.injEq] at hr2
  obtain ⟨rfl, rfl⟩ := hr2
  exact ⟨v1, w1, hr1, ho, hf, hg, hl⟩

theorem wpList_append_all {P : Program} (w : World) {ops : Array Oper} {rest : List Oper} {o : Oper} {a : Act} {Q : Exit → Act → World → Prop} (hgd : o.guard = none) (s x : Operand) (t tx : TypeId)
    (ho : o.op = .call { callee := .builtin .append, args := #[s, x], argTypes := #[t, tx] })
    (base : Nat) (e : TypeId) (i : TypeInfo) (z : Value) (size bytes : Nat) (ht : P.underlying t = some (.slice e)) (hi : P.info? e = some i) (hz : i.zero = some z)
    (hsize : i.size = size) (hby : i.bytes = bytes) (hzs : z.cells.size = size)
    (v : Value) (n : Nat) (xs : List Value) (hs : a.eval s = v) (hown : w.ownsRow base e size v n xs)
    (xv : Value) (m : Nat) (news : List Value) (hx : a.eval x = xv) (hsrc : Src P size tx xv m news w)
    (h63 : n + m ≤ maxLen) (hbytes : (n + m) * bytes ≤ 140737488355328) (hbase : base ≤ w.heap.size)
    (h : ∀ v' w', w'.ownsRow base e size v' (n + m) (xs ++ news) → Fr base [e] w w' → w.grownBy w' v.ownBlock → (v'.ownBlock = v.ownBlock ∨ ∃ g, v'.ownBlock = some g ∧ w.heap.size ≤ g) → wpList P ops Q rest (a.put o.dst v') w') :
    wpList P ops Q (o :: rest) a w := by
  refine wpList_plain hgd fun K hK => ?_
  obtain ⟨v', w', hr, h2, h3, h4, h5⟩ := run_append_all (P := P) w base t tx o.type e i z size bytes ht hi hz hsize hby hzs v n xs hown xv m news hsrc h63 hbytes hbase
  unfold Oper.wp
  simp [execOp, ho, resolve, invoke, builtin, hs, hx, hr, Result.andThen]
  exact hK _ _ (h v' w' h2 h3 h4 h5)

set_option maxRecDepth 100000 in
set_option maxHeartbeats 1000000 in
theorem mbegin_fo {w : World} {B p b : Nat} {v : Value} {st : List Nat} (h : Mg w B p b v st) (h1 : (opens st).length < 6) (h2 : st.length + 1 < 1048576) :
    Calls Try.prog 16 #[.pointer (some ⟨p, 0, none⟩)] w fun e w' => e = .returned (.tuple #[.int .i64 ((st.length : Int) + 1), .int .i64 0]) ∧ ∃ v', Mg w' B p b v' (st ++ [1]) ∧ Fo (mfoot p b v) w w' ∧ (v'.ownBlock = v.ownBlock ∨ ∃ g, v'.ownBlock = some g ∧ w.heap.size ≤ g) := by
  have hnx := mnext_any h
  have hln := h.len
  obtain ⟨g, cap, rfl, hgB, hcap, hgc⟩ := h.shape
  obtain ⟨c0, c1⟩ := h.cell
  obtain ⟨n, hn⟩ : ∃ n, (opens st).length = n := ⟨_, rfl⟩
  have Hn := Lib.hid hn
  rw [hn] at hln h1
  have H := Lib.hid h
  have hsz := h.size
  have hwf : (Lit.int .i64 ((st.length : Int) + 1)).wf = true := wf_i64 (by omega)
  obtain ⟨N, hN⟩ : ∃ N : Int, (st.length : Int) + 1 = N := ⟨_, rfl⟩
  have h3 : decide ((1048576 : Int) ≤ N) = false := by rw [decide_eq_false_iff_not]; omega
  rw [hN] at hnx hwf ⊢
  have HN := Lib.hid hN
  have h4 : ¬ (6 : Int) ≤ (n : Int) := by omega
  obtain ⟨i0, hi, hz0, hz1, hz2⟩ := info_parts Try.infoBool
  have I := Lib.hid (And.intro hi (And.intro hz0 (And.intro hz1 hz2)))
  have hkey := Lib.hid (key_of hwf)
  have HM := Lib.hid H.out.hm
  have hmax : st.length < maxLen := by simp only [maxLen]; omega
  have Hmax := Lib.hid hmax
  have H2 := Lib.hid h2
  clear h hN hn hwf hi hz0 hz1 hz2 hcap hgc h2 hmax
  go_enter Try.func16, Try.ntmps16
  go_wp2_with (first
    | (go_at_call 33; refine hnx.mono ?_; rintro e w' ⟨rfl, rfl⟩)
    | (at_mapUpdate; go_must (refine wpList_mapUpdate_in _ rfl _ _ _ 81 rfl 2 4 keyed Try.underlying81 (plainElem Try.prog 4) b st.length (Dm (opens st)) rfl HM.out Hmax.out _ _ _ rfl rfl hkey.out (.lit (.bool true)) [] (plainElem_bool Try.underlying4 true) ?_)))
  · intro w1 hm1 ht1
    have fm1 := Fm.turned ht1 [] H.out.bb
    have fo1 : Fo (mfoot p b (.slice (some ⟨g, 0, none⟩) (st.length + 1) cap)) w w1 := (Fo.refl _ w).turned ht1 (.inr (.inl rfl))
    rw [put_Dm (by rw [← HN.out]; exact opens_lt), ← HN.out, ← opens_snoc] at hm1
    have hp1 := fm1.heap H.out.hp (by simp)
    have hv1 := ownsRow_fm H.out.hv fm1 (by simp)
    have F1 := Lib.hid fo1; have P1 := Lib.hid hp1; have V1 := Lib.hid hv1; have M1 := Lib.hid hm1
    have c0' : w1.cell? ⟨p, 0, none⟩ = some (.map (some b)) := by rw [cell_of_row w1 p 0 _ _ _ hp1]; rfl
    have c1' : w1.cell? ⟨p, 1, none⟩ = some (.slice (some ⟨g, 0, none⟩) (st.length + 1) cap) := by rw [cell_of_row w1 p 1 _ _ _ hp1]; rfl
    have hs1 : B ≤ w1.heap.size := by have := heap_lt hp1; have := H.out.bp; omega
    have f1 : w1.frozen? ⟨p, 1, none⟩ = false := frozen_of_row _ _ _ _ _ hp1
    clear hm1 ht1 fm1 fo1 hp1 hv1 c0 c1
    go_wp2_with (at_builtin; refine wpList_append_all _ rfl (.tmp 28) (.tmp 29) 82 82 rfl B 4 i0 (.bool false) 1 1 Try.underlying82 I.out.1 I.out.2.1 I.out.2.2.1 I.out.2.2.2 rfl (.slice (some ⟨g, 0, none⟩) (st.length + 1) cap) (st.length + 1) (bls (comm st)) rfl ?hown _ 1 [.bool false] rfl (src_one Try.underlying82 w1 _ rfl _) ?b1 ?b2 ?base ?next)
    case hown => exact ownsRow_fr V1.out ((Fr.refl B [] w1).alloc _) (by simp)
    case b1 => have := H2.out; simp only [maxLen]; omega
    case b2 => have := H2.out; omega
    case base => simp; omega
    case next =>
      intro v2 w2 ho2 hf2 hg2 hl2
      obtain ⟨g2, cap2, rfl⟩ : ∃ g2 cap2, v2 = .slice (some ⟨g2, 0, none⟩) (st.length + 1 + 1) cap2 := by
        rcases ho2.2 with ⟨_, h0⟩ | ⟨g2, cap2, _, hv, _⟩
        · omega
        · exact ⟨g2, cap2, hv⟩
      have ha : Fr B [] w1 (w1.alloc (.cells #[.bool false] 4)) := (Fr.refl B [] w1).alloc _
      have P2 := Lib.hid (hf2.heap (ha.heap P1.out (by simp)) (by decide))
      have M2 := Lib.hid (ownsMap_fr (ownsMap_fr M1.out ha) hf2)
      have O2 := Lib.hid ho2
      have F2 := Lib.hid ((F1.out.alloc (.cells #[.bool false] 4)).grown hg2 (fun k hk => .inl (.inr (.inr hk))))
      have L2 : Hid ((Value.slice (some ⟨g2, 0, none⟩) (st.length + 1 + 1) cap2).ownBlock = (Value.slice (some ⟨g, 0, none⟩) (st.length + 1) cap).ownBlock ∨ ∃ k, (Value.slice (some ⟨g2, 0, none⟩) (st.length + 1 + 1) cap2).ownBlock = some k ∧ w.heap.size ≤ k) := Lib.hid (hl2.imp id (fun ⟨k, h1, h2⟩ => ⟨k, h1, Nat.le_trans (Nat.le_trans F1.out.size (by simp)) h2⟩))
      have f2 : w2.frozen? ⟨p, 1, none⟩ = false := frozen_of_row _ _ _ _ _ P2.out
      have c2 : w2.cell? ⟨p, 1, none⟩ = some (.slice (some ⟨g, 0, none⟩) (st.length + 1) cap) := by rw [cell_of_row w2 p 1 _ _ _ P2.out]; rfl
      clear ho2 hf2 ha hg2 hl2
      go_wp2
      go_ret2
      refine ⟨rfl, .slice (some ⟨g2, 0, none⟩) (st.length + 1 + 1) cap2, ?_, ?_, L2.out⟩
      · have f3 : Fr B [84] w2 (w2.setCell ⟨p, 1, none⟩ (.slice (some ⟨g2, 0, none⟩) (st.length + 1 + 1) cap2)) := (Fr.refl B _ w2).setCell P2.out (.inr ⟨H.out.bp, by simp⟩) 1 _
        refine { hp := ?_, hm := ?_, hv := ?_, bp := H.out.bp, bb := H.out.bb, hl := by have := H2.out; simp; omega, hs := ?_ }
        · simpa using heap_setCell_at P2.out 1 (.slice (some ⟨g2, 0, none⟩) (st.length + 1 + 1) cap2)
        · simpa using ownsMap_fr M2.out f3
        · have := ownsRow_fr O2.out f3 (by decide)
          rw [comm_snoc, bls, List.map_append, List.length_append]
          exact this
        · intro s hs
          rcases List.mem_append.1 hs with h | h
          · exact H.out.hs s h
          · simp at h; omega
      · exact F2.out.setCell (.inl (.inl rfl)) _

/-- Ending one who is open: as if he were aborted. -/
theorem mend_fo {w : World} {B p b : Nat} {v : Value} {st : List Nat} (h : Mg w B p b v st) (x : Int) (hx : (Lit.int .i64 x).wf = true) (hb : stAt st x = 1) :
    Calls Try.prog 36 #[.pointer (some ⟨p, 0, none⟩), .int .i64 x] w fun e w' => e = .returned (.int .i64 0) ∧ Mg w' B p b v (st.set (x.toNat - 1) 3) ∧ Fo (mfoot p b v) w w' := by
  have hlk := look_bool h.hm x hx
  rw [show decide (x ∈ opens st) = true by rw [decide_eq_true_eq, mem_opens]; exact hb] at hlk
  obtain ⟨c0, c1⟩ := h.cell
  have H := Lib.hid h; have hkey := Lib.hid (key_of hx); have HM := Lib.hid h.hm; have Hb := Lib.hid hb
  clear h hx hb
  go_enter Try.func36, Try.ntmps36
  go_wp2_with (at_delete; refine wpList_delete_own _ rfl _ _ 81 2 rfl 4 keyed Try.underlying81 (plainElem Try.prog 4) b st.length (Dm (opens st)) rfl HM.out _ _ rfl hkey.out ?_)
  intro w1 hm1 ht1
  have fm := Lib.hid (Fm.turned ht1 [] H.out.bb)
  have fo : Hid (Fo (mfoot p b v) w w1) := Lib.hid ((Fo.refl _ w).turned ht1 (.inr (.inl rfl)))
  rw [del_Dm, ← opens_set (s := 3) Hb.out (by decide)] at hm1
  have M := Lib.hid hm1
  clear hm1 ht1
  go_wp2
  go_ret
  refine ⟨rfl, ?_, fo.out⟩
  exact { hp := fm.out.heap H.out.hp (by simp), hm := by simpa using M.out, hv := by rw [comm_abort Hb.out, List.length_set]; exact ownsRow_fm H.out.hv fm.out (by simp), bp := H.out.bp, bb := H.out.bb, hl := by simpa using H.out.hl, hs := set_states H.out.hs (by decide) }

set_option maxRecDepth 20000 in
theorem mcommit_fo {w : World} {B p b : Nat} {v : Value} {st : List Nat} (h : Mg w B p b v st) (x : Int) (hx : (Lit.int .i64 x).wf = true) (hb : stAt st x = 1) :
    Calls Try.prog 19 #[.pointer (some ⟨p, 0, none⟩), .int .i64 x] w fun e w' => e = .returned (.int .i64 0) ∧ Mg w' B p b v (st.set (x.toNat - 1) 2) ∧ Fo (mfoot p b v) w w' := by
  have hc := Lib.hid (mend_fo h x hx hb)
  obtain ⟨h1, h2⟩ := stAt_in (by rw [hb]; decide : stAt st x ≠ 0)
  obtain ⟨k, hk⟩ : ∃ k : Nat, x = k := ⟨x.toNat, by omega⟩
  subst hk
  have Hb := Lib.hid hb
  have H0 := Lib.hid h.hs
  have h3 : (k : Int) < (st.length : Int) + 1 := by omega
  have h4 : ¬ (k : Int) < 0 := by omega
  obtain ⟨g, cap, rfl, hgB, hcap, _⟩ := h.shape
  rw [Int.toNat_natCast] at hc ⊢
  have H12 := Lib.hid (And.intro h1 h2)
  clear h hx hb hcap h1 h2
  go_enter Try.func19, Try.ntmps19
  go_wp2_with fail
  refine hc.out.mono ?_
  rintro e w1 ⟨rfl, hm, hf⟩
  have c1 := hm.cell.2
  have fz := hm.fz k
  have hu : w1.cell? ⟨g, k, none⟩ = some (.bool (stAt (st.set (k - 1) 3) k == 2)) := by
    obtain ⟨_, _, e, _⟩ := hm.shape
    simp only [Value.slice.injEq, List.length_set] at e
    obtain ⟨_, _, rfl⟩ := e
    have h : Mg w1 B p b (.slice (some ⟨g, 0, none⟩) ((st.set (k - 1) 3).length + 1) cap) (st.set (k - 1) 3) := by rw [List.length_set]; exact hm
    exact h.cell_at (by have := H12.out; rw [List.length_set]; omega)
  obtain ⟨u, hu'⟩ : ∃ u : Bool, u = (stAt (st.set (k - 1) 3) k == 2) := ⟨_, rfl⟩
  rw [← hu'] at hu
  have M := Lib.hid hm; have F := Lib.hid hf
  clear hm hf hu'
  go_wp2
  go_ret
  exact ⟨rfl, (M.out.commit Hb.out H0.out).1, F.out.setCell (p := ⟨g, k, none⟩) (.inl (.inr (.inr rfl))) _⟩

end Go.Proofs.Ytdjhcdgehmpikaa
