/-
  What bear makes: a version is laid behind the others with its key.
-/
import Derived.Test.YtdjhcdgehmpikaaHf
import Derived.Deep.RegionHeld3
namespace Go.Proofs.Ytdjhcdgehmpikaa
open Go.RowKit Go.Maps

theorem Try.infoVr : (Try.prog.info? 124).map (fun i => (i.zero, i.size, i.bytes)) = some (some (.agg #[.int .i64 0, .string ByteArray.empty, .int .i64 0, .int .i64 0]), 4, 40) := by kernel_rfl
theorem Try.sizeRow : (Try.prog.info? 55).map (·.size) = some 2 := by kernel_rfl

theorem ownsMap_tight {H : Type} {P : Program} {k : TypeId} {R : Value → Option (DataW H × List MemPlace)} {w : World} {b n : Nat} {D : DataW H} (h : w.ownsMap P k R b n D) : w.ownsMap P k R b (Maps.size D) D := by
  obtain ⟨es, clock, hb, f, hs, rfl⟩ := h
  exact ⟨es, clock, hb, f, by simp [Maps.size, length_sorted], rfl⟩

/-- A store into a map that is the call's own, in a region that draws. -/
theorem step_mapUpdate {H : Type} {P : Program} (w : World) {ops : Array Oper} {o : Oper} {a : Act} {K : Act → World → Prop} {Q : Exit → Act → World → Prop} {E : Prop} (hgd : o.guard = none) (m x v : Operand) (t : TypeId) (hop : o.op = Op.mapUpdate t m x v)
    (k e : TypeId) (hk : Keyed P k) (ht : P.underlying t = some (.map k e)) (R : Value → Option (DataW H × List MemPlace)) (b n : Nat) (D : DataW H)
    (hm : a.eval m = .map (some b)) (hown : w.ownsMap P k R b n D) (hn : n < maxLen) (key val : Value) (kl : Lit) (hx : a.eval x = key) (hv : a.eval v = val) (hkey : keyOf P k key = some kl)
    (d : DataW H) (ps : List MemPlace) (hval : R val = some (d, ps))
    (h : ∀ w', w'.ownsMap P k R b (n + 1) (D.put kl d) → w.mapTurned w' b → K (a.put o.dst undef) w') :
    if Region.wanted o (yielded ops a.tmps) = true then Oper.wp P o a w K Q else E := by
  have hw : Region.wanted o (yielded ops a.tmps) = true := by simp [Region.wanted, hgd]
  rw [if_pos hw]
  obtain ⟨w', hrun, r1, r2⟩ := hown.store hk ht hn hkey hval
  unfold Oper.wp
  simp [execOp, hop, hm, hx, hv, hrun, Result.andThen]
  exact h w' r1 r2

theorem step_append_all {P : Program} (w : World) {ops : Array Oper} {o : Oper} {a : Act} {K : Act → World → Prop} {Q : Exit → Act → World → Prop} {E : Prop} (hgd : o.guard = none) (s x : Operand) (t tx : TypeId)
    (ho : o.op = .call { callee := .builtin .append, args := #[s, x], argTypes := #[t, tx] })
    (base : Nat) (e : TypeId) (i : TypeInfo) (z : Value) (size bytes : Nat) (ht : P.underlying t = some (.slice e)) (hi : P.info? e = some i) (hz : i.zero = some z)
    (hsize : i.size = size) (hby : i.bytes = bytes) (hzs : z.cells.size = size)
    (v : Value) (n : Nat) (xs : List Value) (hs : a.eval s = v) (hown : w.ownsRow base e size v n xs)
    (xv : Value) (m : Nat) (news : List Value) (hx : a.eval x = xv) (hsrc : Src P size tx xv m news w)
    (h63 : n + m ≤ maxLen) (hbytes : (n + m) * bytes ≤ 140737488355328) (hbase : base ≤ w.heap.size)
    (h : ∀ v' w', w'.ownsRow base e size v' (n + m) (xs ++ news) → Fr base [e] w w' → w.grownBy w' v.ownBlock → (v'.ownBlock = v.ownBlock ∨ ∃ g, v'.ownBlock = some g ∧ w.heap.size ≤ g) → K (a.put o.dst v') w') :
    if Region.wanted o (yielded ops a.tmps) = true then Oper.wp P o a w K Q else E := by
  have hw : Region.wanted o (yielded ops a.tmps) = true := by simp [Region.wanted, hgd]
  rw [if_pos hw]
  obtain ⟨v', w', hr, h2, h3, h4, h5⟩ := run_append_all (P := P) w base t tx o.type e i z size bytes ht hi hz hsize hby hzs v n xs hown xv m news hsrc h63 hbytes hbase
  unfold Oper.wp
  simp [execOp, ho, resolve, invoke, builtin, hs, hx, hr, Result.andThen]
  exact h v' w' h2 h3 h4 h5

variable {w : World} {B p h b mb : Nat} {v : Value} {S : Int → Value} {st : List Nat} {ks : List Int} {F : Int → List Vr}

theorem Sx.size (a : Sx w B p h b mb v S st ks F) : B ≤ w.heap.size := by have := heap_lt a.hp.hh; have := a.hp.bh; omega

/-- Before the append: the new version in memory. -/
theorem bear_pre {w1 wB : World} (a : Sx w B p h b mb v S st ks F) (key : Int) (r : Vr) (hk : Kept w w1 []) (hwB : wB = w1.alloc (.cells (vcs key r).toArray 124)) :
    Kept w wB [] ∧ B ≤ wB.heap.size ∧ wB.ownsRow B 124 4 (S key) (F key).length (vcl key (F key)) ∧ Src Try.prog 4 117 (.slice (some ⟨w1.heap.size, 0, none⟩) 1 1) 1 (vcs key r) wB := by
  have hkB : Kept w wB [] := by rw [hwB]; exact hk.alloc _
  have hb : wB.heap[w1.heap.size]? = some (.cells (vcs key r).toArray 124 (0, 0)) := by rw [hwB]; exact heap_alloc_new w1 _
  refine ⟨hkB, Nat.le_trans a.size hkB.size, ownsRow_fr (a.hp.rows key) (Fr.ofKept hkB 0 []) (by simp), Src.ofSlice wB Try.underlying117 ⟨w1.heap.size, 0, none⟩ 1 1 _ rfl (fun j u hu => ?_) (by intro u hu; simp [vcs] at hu; rcases hu with rfl | rfl | rfl | rfl <;> rfl)⟩
  rw [Addr.add_lit, cell_of_row wB _ _ _ _ _ hb, Nat.zero_add]
  simpa using hu

/-- Behind the append: what the store into the map makes. -/
theorem bear_end {wB w5 w6 : World} {v5 : Value} (a : Sx w B p h b mb v S st ks F) (key : Int) (r : Vr) (hr : VrOk r) (hkey : (Lit.int .i64 key).wf = true) (hk : Kept w wB [])
    (ho : w5.ownsRow B 124 4 v5 ((F key).length + 1) (vcl key (F key) ++ vcs key r)) (hf : Fr B [124] wB w5) (hg : wB.grownBy w5 (S key).ownBlock) (hl : v5.ownBlock = (S key).ownBlock ∨ ∃ g, v5.ownBlock = some g ∧ wB.heap.size ≤ g)
    (hm : w6.ownsMap Try.prog 2 Rh mb (ks.length + 1) ((Tm ks S).put (.int .i64 key) (.held v5))) (ht : w5.mapTurned w6 mb) :
    Sx w6 B p h b mb v (updF S key v5) st (insK key ks) (updF F key (F key ++ [r])) ∧ Fo (foot p b v h mb S) w w6 ∧ ∀ k, foot p b v h mb (updF S key v5) k → foot p b v h mb S k ∨ w.heap.size ≤ k := by
  rw [put_Tm key S v5 a.hp.srt] at hm
  have hm' := ownsMap_tight hm
  rw [size_Tm] at hm'
  have aB := a.keep hk
  have f5 : Fm B [124] wB w5 := Fm.ofFr hf
  have f56 : Fm B [] w5 w6 := Fm.turned ht [] a.hp.bm
  have f6 : Fm B [124] wB w6 := f5.trans (f56.mono (Nat.le_refl _) (by simp))
  have g56 := ht.grown
  have keepRow : ∀ q, q ≠ key → w6.ownsRow B 124 4 (S q) (F q).length (vcl q (F q)) := by
    intro q hq
    have h1 : w5.ownsRow B 124 4 (S q) (F q).length (vcl q (F q)) := (aB.hp.rows q).kept hg (a.hp.apart q key hq)
    exact ownsRow_fm h1 f56 (by simp)
  have v5ne : ∀ q, q ≠ key → (S q).ownBlock = none ∨ (S q).ownBlock ≠ v5.ownBlock := by
    intro q hq
    rcases hl with h1 | ⟨g, h1, h2⟩
    · rw [h1]; exact a.hp.apart q key hq
    · cases e : (S q).ownBlock with
      | none => exact .inl rfl
      | some g' =>
        have := (World.ownsRow.lt (aB.hp.rows q) g' e).2
        refine .inr (fun e2 => ?_)
        rw [h1] at e2
        cases e2
        omega
  have bm6 : w6.heap[b]? = wB.heap[b]? := by
    obtain ⟨es, c, hb, _⟩ := aB.mg.hm
    have e5 : w5.heap[b]? = some (.map es c) := by
      rcases hf.block b (heap_lt hb) with h1 | ⟨_, cs, cs', t, fz, _, h1, _⟩
      · exact h1.trans hb
      · rw [hb] at h1; cases h1
    rw [hb, (g56.block b (heap_lt e5) (fun e => a.ne (by cases e; rfl)))]
    exact e5
  refine ⟨⟨?_, ?_, a.ne⟩, ?_, ?_⟩
  · refine { aB.mg with hp := f6.heap aB.mg.hp (by decide), hm := ?_, hv := ownsRow_fm aB.mg.hv f6 (by decide) }
    obtain ⟨es, c, hb, rest⟩ := aB.mg.hm
    exact ⟨es, c, bm6.trans hb, rest⟩
  · refine { hh := f6.heap aB.hp.hh (by decide), hm := hm', srt := insK_sorted a.hp.srt, wf := ?_, rows := ?_, nk := ?_, apart := ?_, ok := ?_, bh := a.hp.bh, bm := a.hp.bm }
    · intro k hk'
      rcases mem_insK.1 hk' with rfl | h1
      · exact hkey
      · exact a.hp.wf k h1
    · intro q
      by_cases e : q = key
      · subst e
        rw [updF_same, updF_same, vcl_append, List.length_append]
        have h2 := ownsRow_fm ho f56 (by simp)
        have e1 : vcl q [r] = vcs q r := by simp [vcl]
        rw [e1]
        exact h2
      · rw [updF_other _ _ e, updF_other _ _ e]
        exact keepRow q e
    · intro k hk'
      have h1 : k ≠ key := fun e => hk' (mem_insK.2 (.inl e))
      rw [updF_other _ _ h1]
      exact a.hp.nk k (fun h2 => hk' (mem_insK.2 (.inr h2)))
    · intro k q hne
      by_cases e1 : k = key
      · subst e1
        rw [updF_same, updF_other _ _ (fun e => hne e.symm)]
        rcases v5ne q (fun e => hne e.symm) with h1 | h1
        · rw [h1]
          cases v5.ownBlock <;> simp
        · exact .inr (fun e => h1 e.symm)
      · rw [updF_other _ _ e1]
        by_cases e2 : q = key
        · subst e2
          rw [updF_same]
          exact v5ne k e1
        · rw [updF_other _ _ e2]
          exact a.hp.apart k q hne
    · intro k s hs
      by_cases e : k = key
      · subst e
        rw [updF_same] at hs
        rcases List.mem_append.1 hs with h1 | h1
        · exact a.hp.ok k s h1
        · simp at h1; subst h1; exact hr
      · rw [updF_other _ _ e] at hs
        exact a.hp.ok k s hs
  · exact ((Fo.ofKept hk _).grown hg (fun k hk' => .inl (.inr (.inr (.inr ⟨key, hk'⟩))))).turned ht (.inr (.inr (.inl rfl)))
  · intro k hk'
    rcases hk' with h1 | h1 | h1 | ⟨q, h1⟩
    · exact .inl (.inl h1)
    · exact .inl (.inr (.inl h1))
    · exact .inl (.inr (.inr (.inl h1)))
    · by_cases e : q = key
      · subst e
        rw [updF_same] at h1
        rcases hl with h2 | ⟨g, h2, h3⟩
        · rw [h2] at h1; exact .inl (.inr (.inr (.inr ⟨q, h1⟩)))
        · rw [h2] at h1; cases h1; exact .inr (Nat.le_trans hk.size h3)
      · rw [updF_other _ _ e] at h1
        exact .inl (.inr (.inr (.inr ⟨q, h1⟩)))

/-- The cells that bear reads. -/
def BearS (P0 h mb bx : Nat) (key : Int) (txt : ByteArray) (V : World) : Prop :=
  V.heap[h]? = some (.cells #[.pointer (some ⟨P0, 0, none⟩), .map (some mb)] 116 (0, 0)) ∧ V.heap[bx]? = some (.cells #[.int .i64 key, .string txt] 55 (0, 0))

theorem bearS_map {p h mb bx : Nat} {key : Int} {txt : ByteArray} {V : World} (hV : BearS p h mb bx key txt V) : V.cell? ⟨h, 1, none⟩ = some (.map (some mb)) := by
  rw [cell_of_row V h 1 _ _ _ hV.1]; rfl
theorem bearS_key {p h mb bx : Nat} {key : Int} {txt : ByteArray} {V : World} (hV : BearS p h mb bx key txt V) : V.cell? ⟨bx, 0, none⟩ = some (.int .i64 key) := by
  rw [cell_of_row V bx 0 _ _ _ hV.2]; rfl

theorem bearS_txt {p h mb bx : Nat} {key : Int} {txt : ByteArray} {V : World} (hV : BearS p h mb bx key txt V) : V.cell? ⟨bx, 1, none⟩ = some (.string txt) := by
  rw [cell_of_row V bx 1 _ _ _ hV.2]; rfl


end Go.Proofs.Ytdjhcdgehmpikaa
