/-
  A list of structs that is held in one cell: one whose row is the call's own (Ls), and one whose row can be read, wherever in its block it begins (Lr). No function of the program.
-/
import Derived.Test.YtcnjgjgppbakdaaGkd
namespace Go.Proofs.Ytcnjgjgppbakdaa
set_option linter.unusedVariables false
open Go.RowKit

variable {α : Type} {E : Enc α}

theorem RdK.fo {w w' : World} {v : Value} {l : List α} {O : Nat → Prop} (h : RdK E w v l) (hf : Fo O w w') (hb : ∀ b, v.ownBlock = some b → ¬ O b) : RdK E w' v l := by
  obtain ⟨a, c, rfl, hc, ha, hl⟩ := h
  refine ⟨a, c, rfl, hc, ha, fun hne => ?_⟩
  obtain ⟨b, o, rfl, hcell⟩ := hl hne
  refine ⟨b, o, rfl, fun j hj => ?_⟩
  obtain ⟨u, hu⟩ := kcs_some E l j hj
  have h1 := hcell j hj
  rw [hu] at h1 ⊢
  exact (World.cell?_of_block (hf.block b (World.block_lt_of_cell? w _ h1) (hb b rfl))).trans h1

/-- The blocks: the cell's, the row's. -/
def lfoot (h : Nat) (V : Value) : Nat → Prop := fun k => k = h ∨ V.ownBlock = some k

variable (E) in
structure Ls (T e : TypeId) (w : World) (B h : Nat) (V : Value) (l : List α) : Prop where
  hh : w.heap[h]? = some (.cells #[V] T (0, 0))
  bh : B ≤ h
  hT : T ≠ e
  own : OwnK E w B e V l

variable (E) in
structure Lr (T e : TypeId) (w : World) (B h : Nat) (V : Value) (l : List α) : Prop where
  hh : w.heap[h]? = some (.cells #[V] T (0, 0))
  bh : B ≤ h
  hT : T ≠ e
  rd : RdK E w V l
  tag : ∀ k, V.ownBlock = some k → B ≤ k ∧ ∃ cur, w.heap[k]? = some (.cells cur e (0, 0))

variable {T e : TypeId} {w w' : World} {B h : Nat} {V : Value} {l : List α}

theorem Ls.cell (a : Ls E T e w B h V l) : w.cell? ⟨h, 0, none⟩ = some V ∧ w.frozen? ⟨h, 0, none⟩ = false :=
  ⟨by rw [cell_of_row _ _ _ _ _ _ a.hh]; rfl, frozen_of_row _ _ _ _ _ a.hh⟩
theorem Ls.lt (a : Ls E T e w B h V l) : ∀ k, lfoot h V k → B ≤ k ∧ k < w.heap.size := by
  rintro k (rfl | hk)
  · exact ⟨a.bh, heap_lt a.hh⟩
  · exact a.own.lt k hk
theorem Ls.size (a : Ls E T e w B h V l) : B ≤ w.heap.size := by have := heap_lt a.hh; have := a.bh; omega
theorem Ls.shape (a : Ls E T e w B h V l) : ∃ u c, V = .slice u l.length c := a.own.shape
theorem Ls.apart (a : Ls E T e w B h V l) : V.ownBlock ≠ some h := a.own.apart a.hh a.hT
theorem Ls.tag (a : Ls E T e w B h V l) {k : Nat} (hk : V.ownBlock = some k) : ∃ cur, w.heap[k]? = some (.cells cur e (0, 0)) := a.own.tag hk
theorem Ls.fo (a : Ls E T e w B h V l) {O : Nat → Prop} (hf : Fo O w w') (hd : ∀ k, lfoot h V k → ¬ O k) : Ls E T e w' B h V l :=
  ⟨hf.heap (hd h (.inl rfl)) a.hh, a.bh, a.hT, a.own.fo hf (fun g hg => hd g (.inr hg))⟩
theorem Ls.keep (a : Ls E T e w B h V l) (hk : Kept w w' []) : Ls E T e w' B h V l := a.fo (Fo.ofKept hk (fun _ => False)) (fun _ _ h => h)
/-- The row is laid anew; it lies where it lay, or in what is new. -/
theorem Ls.lay (a : Ls E T e w B h V l) {w1 : World} (f : Fo (fun k => V.ownBlock = some k) w w1) {v : Value} {m : List α} (x : OwnK E w1 B e v m) (hv : ∀ k, v.ownBlock = some k → V.ownBlock = some k ∨ w.heap.size ≤ k) :
    (w1.cell? ⟨h, 0, none⟩ = some V ∧ w1.frozen? ⟨h, 0, none⟩ = false) ∧ Ls E T e (w1.setCell ⟨h, 0, none⟩ v) B h v m ∧ Stp (lfoot h V) (lfoot h v) w (w1.setCell ⟨h, 0, none⟩ v) := by
  have hh : w1.heap[h]? = _ := f.heap a.apart a.hh
  have f2 : Fo (lfoot h V) w w1 := f.mono (fun k hk => .inr hk)
  have f3 : Fo (fun k => k = h) w1 (w1.setCell ⟨h, 0, none⟩ v) := Fo.setCell (O := fun k => k = h) (Fo.refl _ w1) (p := ⟨h, 0, none⟩) (.inl rfl) v
  have hvh : v.ownBlock ≠ some h := by
    intro hk
    rcases hv h hk with h1 | h1
    · exact a.apart h1
    · have := heap_lt a.hh; omega
  refine ⟨⟨by rw [cell_of_row _ _ _ _ _ _ hh]; rfl, frozen_of_row _ _ _ _ _ hh⟩, ⟨?_, a.bh, a.hT, x.fo f3 (fun g hg e => by subst e; exact hvh hg)⟩, f2.setCell (.inl (.inl rfl)) v, ?_⟩
  · rw [heap_setCell_at hh]
    rfl
  · rintro k (rfl | hk)
    · exact .inl (.inl rfl)
    · exact (hv k hk).imp (fun h => .inr h) id
/-- The row itself turns, in place. -/
theorem Ls.turn (a : Ls E T e w B h V l) (f : Fo (fun k => V.ownBlock = some k) w w') {m : List α} (x : OwnK E w' B e V m) : Ls E T e w' B h V m ∧ Stp (lfoot h V) (lfoot h V) w w' :=
  ⟨⟨f.heap a.apart a.hh, a.bh, a.hT, x⟩, f.mono (fun k hk => .inr hk), fun k hk => .inl hk⟩
/-- One that is there: its place. -/
theorem Ls.hit (a : Ls E T e w B h V l) {i : Nat} {x : α} (hx : l[i]? = some x) : ∃ g c, V = .slice (some ⟨g, 0, none⟩) l.length c := by
  obtain ⟨u, c, e⟩ := a.shape
  have o1 := a.own
  rw [e] at o1
  obtain ⟨g, rfl, _⟩ := o1.at hx
  exact ⟨g, c, e⟩

theorem Lr.cell (a : Lr E T e w B h V l) : w.cell? ⟨h, 0, none⟩ = some V ∧ w.frozen? ⟨h, 0, none⟩ = false :=
  ⟨by rw [cell_of_row _ _ _ _ _ _ a.hh]; rfl, frozen_of_row _ _ _ _ _ a.hh⟩
theorem Lr.lt (a : Lr E T e w B h V l) : ∀ k, lfoot h V k → B ≤ k ∧ k < w.heap.size := by
  rintro k (rfl | hk)
  · exact ⟨a.bh, heap_lt a.hh⟩
  · obtain ⟨h1, cur, h2⟩ := a.tag k hk
    exact ⟨h1, heap_lt h2⟩
theorem Lr.size (a : Lr E T e w B h V l) : B ≤ w.heap.size := by have := heap_lt a.hh; have := a.bh; omega
theorem Lr.shape (a : Lr E T e w B h V l) : ∃ u c, V = .slice u l.length c := a.rd.shape
theorem Lr.apart (a : Lr E T e w B h V l) : V.ownBlock ≠ some h := by
  intro hk
  obtain ⟨_, cur, h2⟩ := a.tag h hk
  have := a.hh
  rw [h2] at this
  simp only [Option.some.injEq, Obj.cells.injEq] at this
  exact a.hT this.2.1.symm
theorem Lr.fo (a : Lr E T e w B h V l) {O : Nat → Prop} (hf : Fo O w w') (hd : ∀ k, lfoot h V k → ¬ O k) : Lr E T e w' B h V l :=
  ⟨hf.heap (hd h (.inl rfl)) a.hh, a.bh, a.hT, a.rd.fo hf (fun g hg => hd g (.inr hg)), fun k hk => by
    obtain ⟨h1, cur, h2⟩ := a.tag k hk
    exact ⟨h1, cur, hf.heap (hd k (.inr hk)) h2⟩⟩
theorem Lr.keep (a : Lr E T e w B h V l) (hk : Kept w w' []) : Lr E T e w' B h V l := a.fo (Fo.ofKept hk (fun _ => False)) (fun _ _ h => h)
/-- Another row is laid that can be read: it was there, or is new. -/
theorem Lr.lay (a : Lr E T e w B h V l) {w1 : World} (k1 : Kept w w1 []) {v : Value} {m : List α} (x : RdK E w1 v m) (ht : ∀ k, v.ownBlock = some k → B ≤ k ∧ ∃ cur, w1.heap[k]? = some (.cells cur e (0, 0))) (hv : ∀ k, v.ownBlock = some k → V.ownBlock = some k ∨ w.heap.size ≤ k) :
    (w1.cell? ⟨h, 0, none⟩ = some V ∧ w1.frozen? ⟨h, 0, none⟩ = false) ∧ Lr E T e (w1.setCell ⟨h, 0, none⟩ v) B h v m ∧ Stp (lfoot h V) (lfoot h v) w (w1.setCell ⟨h, 0, none⟩ v) := by
  have hh : w1.heap[h]? = _ := k1.heap (by simp) a.hh
  have f2 : Fo (lfoot h V) w w1 := Fo.ofKept k1 _
  have f3 : Fo (fun k => k = h) w1 (w1.setCell ⟨h, 0, none⟩ v) := Fo.setCell (O := fun k => k = h) (Fo.refl _ w1) (p := ⟨h, 0, none⟩) (.inl rfl) v
  have hvh : v.ownBlock ≠ some h := by
    intro hk
    obtain ⟨_, cur, h2⟩ := ht h hk
    rw [hh] at h2
    simp only [Option.some.injEq, Obj.cells.injEq] at h2
    exact a.hT h2.2.1
  have hn : ∀ k, v.ownBlock = some k → ¬ k = h := fun k hk e => hvh (by rw [← e]; exact hk)
  refine ⟨⟨by rw [cell_of_row _ _ _ _ _ _ hh]; rfl, frozen_of_row _ _ _ _ _ hh⟩, ⟨?_, a.bh, a.hT, x.fo f3 hn, fun k hk => ?_⟩, f2.setCell (.inl (.inl rfl)) v, ?_⟩
  · rw [heap_setCell_at hh]
    rfl
  · obtain ⟨h1, cur, h2⟩ := ht k hk
    exact ⟨h1, cur, f3.heap (hn k hk) h2⟩
  · rintro k (rfl | hk)
    · exact .inl (.inl rfl)
    · exact (hv k hk).imp (fun h => .inr h) id
/-- Another row is laid that is the call's own, and new. -/
theorem Lr.layNew (a : Lr E T e w B h V l) {w1 : World} (k1 : Kept w w1 []) {v : Value} {m : List α} (x : OwnK E w1 w.heap.size e v m) :
    (w1.cell? ⟨h, 0, none⟩ = some V ∧ w1.frozen? ⟨h, 0, none⟩ = false) ∧ Lr E T e (w1.setCell ⟨h, 0, none⟩ v) B h v m ∧ Stp (lfoot h V) (lfoot h v) w (w1.setCell ⟨h, 0, none⟩ v) :=
  a.lay k1 x.rd (fun k hk => ⟨Nat.le_trans a.size (x.lt k hk).1, x.tag hk⟩) (fun k hk => .inr (x.lt k hk).1)

/-- The code's and the document's share no block. -/
theorem Ls.dis {β : Type} {F : Enc β} {T2 e2 : TypeId} {h2 : Nat} {V2 : Value} {m : List β} (a : Ls E T e w B h V l) (b : Lr F T2 e2 w B h2 V2 m) (h1 : T ≠ T2) (h3 : T ≠ e2) (h4 : e ≠ T2) (h5 : e ≠ e2) : ∀ k, lfoot h V k → ¬ lfoot h2 V2 k := by
  have tg : ∀ {k : Nat} {c1 c2 : Array Value} {t1 t2 : TypeId}, w.heap[k]? = some (.cells c1 t1 (0, 0)) → w.heap[k]? = some (.cells c2 t2 (0, 0)) → t1 = t2 := by
    intro k c1 c2 t1 t2 x y
    rw [x] at y
    simp only [Option.some.injEq, Obj.cells.injEq] at y
    exact y.2.1
  rintro k (rfl | hk) (rfl | hk2)
  · exact h1 (tg a.hh b.hh)
  · obtain ⟨_, cur, h6⟩ := b.tag _ hk2
    exact h3 (tg a.hh h6)
  · obtain ⟨cur, h6⟩ := a.tag hk
    exact h4 (tg h6 b.hh)
  · obtain ⟨cur, h6⟩ := a.tag hk
    obtain ⟨_, cur2, h7⟩ := b.tag _ hk2
    exact h5 (tg h6 h7)

theorem Stp.ofK {O : Nat → Prop} {a b : World} (h : Kept a b []) : Stp O O a b := ⟨Fo.ofKept h O, fun _ h => .inl h⟩
theorem Stp.afterK {O O1 : Nat → Prop} {a b c : World} (h : Kept a b []) (k : Stp O O1 b c) : Stp O O1 a c := (Stp.ofK h).trans k
theorem Stp.thenK {O O1 : Nat → Prop} {a b c : World} (h : Stp O O1 a b) (k : Kept b c []) : Stp O O1 a c := h.trans (Stp.ofK k)
theorem Kept.foC {O : Nat → Prop} {a b c : World} (k : Kept a b []) (f : Fo O b c) (hB : ∀ k, O k → a.heap.size ≤ k) : Kept a c [] :=
  ⟨f.os.trans k.os, f.tape.trans k.tape, f.output.trans k.output, Nat.le_trans k.size f.size, fun i hi _ => (f.block i (Nat.lt_of_lt_of_le hi k.size) (fun ho => by have := hB i ho; omega)).trans (k.block i hi (by simp))⟩

end Go.Proofs.Ytcnjgjgppbakdaa
