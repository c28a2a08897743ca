/-
  The code's ticks and the document's, side by side.
-/
import Derived.Test.YtodfjpjjcgdmeaaKo
namespace Go.Proofs.Ytodfjpjjcgdmeaa
set_option linter.unusedVariables false
open Go.RowKit

/-- A step: blocks from b on stand, and lists of numbers. -/
structure Nx (b : Nat) (w w' : World) : Prop where
  far : ∀ k o, b ≤ k → w.heap[k]? = some o → w'.heap[k]? = some o
  rd : ∀ v l, RdT w v l → RdT w' v l
  size : w.heap.size ≤ w'.heap.size

theorem Nx.ofKept {w w' : World} (b : Nat) (k : Kept w w' []) : Nx b w w' := ⟨fun _ _ _ h => k.heap (by simp) h, fun _ _ h => h.keep k, k.size⟩
theorem Nx.trans {b : Nat} {u v w : World} (h : Nx b u v) (k : Nx b v w) : Nx b u w := ⟨fun i o hi ho => k.far i o hi (h.far i o hi ho), fun v l hr => k.rd v l (h.rd v l hr), Nat.le_trans h.size k.size⟩
theorem Nx.ofStp {b : Nat} {O O' : Nat → Prop} {w w' : World} (s : Stp O O' w w') (hb : ∀ k, O k → k < b) (hn : NoI w O) : Nx b w w' :=
  ⟨fun k o hk ho => s.1.heap (fun h => by have := hb k h; omega) ho, fun v l hr => hr.fo s.1 hn, s.1.size⟩

/-- Both, side by side: the code's are ps, the document's are qs; b bounds their blocks. -/
def Bt (b : Nat) (W w : World) (B h hm : Nat) (ps qs : List Pt) : Prop :=
  ∃ V xs U ys, Tc tkT [] w B h V xs ∧ Tc rkT [.int .i64 (lastN qs)] w B hm U ys ∧ xs.map Tk.pl = ps ∧ ys.map Tk.pl = qs ∧ (∀ k, tfoot h V k → ¬ tfoot hm U k) ∧ Kept W w [] ∧ W.heap.size ≤ B ∧ (∀ k, tfoot hm U k → k < b)

/-- The same, where the code's blocks, too, lie below b. -/
def Bs (b : Nat) (W w : World) (B h hm : Nat) (ps qs : List Pt) : Prop :=
  ∃ V xs U ys, Tc tkT [] w B h V xs ∧ Tc rkT [.int .i64 (lastN qs)] w B hm U ys ∧ xs.map Tk.pl = ps ∧ ys.map Tk.pl = qs ∧ (∀ k, tfoot h V k → ¬ tfoot hm U k) ∧ Kept W w [] ∧ W.heap.size ≤ B ∧ (∀ k, tfoot hm U k → k < b) ∧ (∀ k, tfoot h V k → k < b)

variable {b : Nat} {W w w' : World} {B h hm : Nat} {ps qs : List Pt}

theorem Bt.keep (a : Bt b W w B h hm ps qs) (k : Kept w w' []) : Bt b W w' B h hm ps qs := by
  obtain ⟨V, xs, U, ys, h1, h2, h3, h4, h5, h6, h7, h8⟩ := a
  exact ⟨V, xs, U, ys, h1.keep k, h2.keep k, h3, h4, h5, h6.trans k (by simp), h7, h8⟩
theorem Bs.keep (a : Bs b W w B h hm ps qs) (k : Kept w w' []) : Bs b W w' B h hm ps qs := by
  obtain ⟨V, xs, U, ys, h1, h2, h3, h4, h5, h6, h7, h8, h9⟩ := a
  exact ⟨V, xs, U, ys, h1.keep k, h2.keep k, h3, h4, h5, h6.trans k (by simp), h7, h8, h9⟩
theorem Bt.now (a : Bt b W w B h hm ps qs) : Bs w.heap.size W w B h hm ps qs := by
  obtain ⟨V, xs, U, ys, h1, h2, h3, h4, h5, h6, h7, h8⟩ := a
  exact ⟨V, xs, U, ys, h1, h2, h3, h4, h5, h6, h7, fun k hk => (h2.lt k hk).2, fun k hk => (h1.lt k hk).2⟩
theorem Bs.bt (a : Bs b W w B h hm ps qs) : Bt b W w B h hm ps qs := by
  obtain ⟨V, xs, U, ys, h1, h2, h3, h4, h5, h6, h7, h8, _⟩ := a
  exact ⟨V, xs, U, ys, h1, h2, h3, h4, h5, h6, h7, h8⟩
theorem Bt.kw (a : Bt b W w B h hm ps qs) : Kept W w [] := by
  obtain ⟨V, xs, U, ys, h1, h2, h3, h4, h5, h6, h7, h8⟩ := a
  exact h6
theorem Bs.kw (a : Bs b W w B h hm ps qs) : Kept W w [] := a.bt.kw

/-- The document's cells. -/
theorem Bt.doc (a : Bt b W w B h hm ps qs) : (∃ u c, w.cell? ⟨hm, 0, none⟩ = some (.slice u qs.length c)) ∧ w.cell? ⟨hm, 1, none⟩ = some (.int .i64 (lastN qs)) := by
  obtain ⟨V, xs, U, ys, h1, h2, h3, h4, h5, h6, h7, h8⟩ := a
  obtain ⟨u, c, e⟩ := h2.shape
  refine ⟨⟨u, c, ?_⟩, h2.cell1.1⟩
  rw [h2.cell.1, e, ← h4, List.length_map]

/-- The code does something. -/
theorem code_step {V V' U : Value} {xs xs' ys : List Tk} (h1 : Tc tkT [] w B h V xs) (h2 : Tc rkT [.int .i64 (lastN qs)] w B hm U ys) (h4 : ys.map Tk.pl = qs) (h5 : ∀ k, tfoot h V k → ¬ tfoot hm U k) (h6 : Kept W w []) (h7 : W.heap.size ≤ B) (h8 : ∀ k, tfoot hm U k → k < b) (h9 : ∀ k, tfoot h V k → k < b)
    (t1 : Tc tkT [] w' B h V' xs') (s : Stp (tfoot h V) (tfoot h V') w w') : Bt b W w' B h hm (xs'.map Tk.pl) qs ∧ Nx b w w' :=
  ⟨⟨V', xs', U, ys, t1, h2.fo s.1 (fun k hk hh => h5 k hh hk) h1.noI, rfl, h4, fun k hk hh => by
    rcases s.2 k hk with g1 | g1
    · exact h5 k g1 hh
    · have := (h2.lt k hh).2; omega, h6.foK s.1 (fun k hk => by have := (h1.lt k hk).1; omega), h7, h8⟩, Nx.ofStp s h9 h1.noI⟩

/-- The document does something. -/
theorem doc_step {V U U' : Value} {xs ys ys' : List Tk} {qs' : List Pt} (h1 : Tc tkT [] w B h V xs) (h2 : Tc rkT [.int .i64 (lastN qs)] w B hm U ys) (h3 : xs.map Tk.pl = ps) (h5 : ∀ k, tfoot h V k → ¬ tfoot hm U k) (h6 : Kept W w []) (h7 : W.heap.size ≤ B) (h8 : ∀ k, tfoot hm U k → k < b)
    (t2 : Tc rkT [.int .i64 (lastN qs')] w' B hm U' ys') (e : ys'.map Tk.pl = qs') (s : Stp (tfoot hm U) (tfoot hm U') w w') : Bt w'.heap.size W w' B h hm ps qs' ∧ Nx b w w' :=
  ⟨⟨V, xs, U', ys', h1.fo s.1 (fun k hk hh => h5 k hk hh) h2.noI, t2, h3, e, fun k hk hh => by
    rcases s.2 k hh with g1 | g1
    · exact h5 k hk g1
    · have := (h1.lt k hk).2; omega, h6.foK s.1 (fun k hk => by have := (h2.lt k hk).1; omega), h7, fun k hk => (t2.lt k hk).2⟩, Nx.ofStp s h8 h2.noI⟩

theorem bt_add (a : Bs b W w B h hm ps qs) (ok : Okp ps) (M : Int) (va : Option Addr) (vc : Nat) (l : List Int) (t : Int) (hr : RdT w (.slice va l.length vc) l) (hM : M ≤ 9223372036854775807) (hll : l.length ≤ 1000) (hlast : lastN ps ≤ 1099511627776) :
    Calls Try.prog 13 #[.pointer (some ⟨h, 0, none⟩), .agg #[.int .i64 M, .slice va l.length vc], .int .i64 t] w fun e w' =>
      ∃ y : Tk, e = .returned (.tuple #[.agg y.cs, .int .i64 (addE ps M l t)]) ∧ y.pl = addP ps M l t ∧ RdT w' y.op y.l ∧ Bt b W w' B h hm (addS ps M l t) qs ∧ Nx b w w' := by
  obtain ⟨V, xs, U, ys, h1, h2, rfl, h4, h5, h6, h7, h8, h9⟩ := a
  refine (tkadd_any h1 ok M va vc l t hr hM hll hlast).mono ?_
  rintro e w' ⟨y, V', xs', rfl, g1, g2, g3, g4, g5, _⟩
  obtain ⟨c1, c2⟩ := code_step h1 h2 h4 h5 h6 h7 h8 h9 g3 g5
  rw [g4] at c1
  exact ⟨y, rfl, g1, g2, c1, c2⟩

theorem bt_put (a : Bs b W w B h hm ps qs) (ok : Okp ps) (n M : Int) (va : Option Addr) (vc : Nat) (l : List Int) (t : Int) (hr : RdT w (.slice va l.length vc) l) (hM : M ≤ 9223372036854775807) (hll : l.length ≤ 1000) (hlast : lastN ps ≤ 1099511627776) :
    Calls Try.prog 16 #[.pointer (some ⟨h, 0, none⟩), .agg #[.int .i64 n, .int .i64 M, .slice va l.length vc, .int .i64 t]] w fun e w' =>
      e = .returned (.int .i64 (putE ps n M l t)) ∧ Bt b W w' B h hm (putS ps n M l t) qs ∧ Nx b w w' := by
  obtain ⟨V, xs, U, ys, h1, h2, rfl, h4, h5, h6, h7, h8, h9⟩ := a
  refine (tkput_any h1 ok n M va vc l t hr hM hll hlast).mono ?_
  rintro e w' ⟨rfl, V', xs', g3, g4, g5⟩
  obtain ⟨c1, c2⟩ := code_step h1 h2 h4 h5 h6 h7 h8 h9 g3 g5
  rw [g4] at c1
  exact ⟨rfl, c1, c2⟩

theorem bt_trim (a : Bs b W w B h hm ps qs) (ok : Okp ps) (c : Int) :
    Calls Try.prog 17 #[.pointer (some ⟨h, 0, none⟩), .int .i64 c] w fun e w' => e = .returned (.int .i64 ((ps.length : Int) - ((trimS ps c).length : Int))) ∧ Bt b W w' B h hm (trimS ps c) qs ∧ Nx b w w' := by
  obtain ⟨V, xs, U, ys, h1, h2, rfl, h4, h5, h6, h7, h8, h9⟩ := a
  refine (tktrim_any h1 (by have := ok.size; simp at this; omega) c).mono ?_
  rintro e w' ⟨rfl, V', xs', g3, g4, g5⟩
  obtain ⟨c1, c2⟩ := code_step h1 h2 h4 h5 h6 h7 h8 h9 g3 g5
  rw [g4] at c1
  exact ⟨by rw [List.length_map], c1, c2⟩

theorem rbt_add (a : Bt b W w B h hm ps qs) (ok : Okp qs) (M : Int) (va : Option Addr) (vc : Nat) (l : List Int) (t : Int) (hr : RdT w (.slice va l.length vc) l) (hM : M ≤ 9223372036854775807) (hll : l.length ≤ 1000) (hlast : lastN qs ≤ 1099511627776) :
    Calls Try.prog 14 #[.pointer (some ⟨hm, 0, none⟩), .agg #[.int .i64 M, .slice va l.length vc], .int .i64 t] w fun e w' =>
      ∃ y : Tk, e = .returned (.tuple #[.agg y.cs, .int .i64 (addE qs M l t)]) ∧ y.pl = addP qs M l t ∧ RdT w' y.op y.l ∧ Bt w'.heap.size W w' B h hm ps (addS qs M l t) ∧ Nx b w w' := by
  obtain ⟨V, xs, U, ys, h1, h2, h3, rfl, h5, h6, h7, h8⟩ := a
  refine (rkadd_any h2 ok M va vc l t hr hM hll hlast).mono ?_
  rintro e w' ⟨y, U', ys', rfl, g1, g2, g3, g4, g5⟩
  obtain ⟨c1, c2⟩ := doc_step h1 h2 h3 h5 h6 h7 h8 g3 g4 g5
  exact ⟨y, rfl, g1, g2, c1, c2⟩

theorem rbt_trim (a : Bt b W w B h hm ps qs) (ok : Okp qs) (c : Int) :
    Calls Try.prog 18 #[.pointer (some ⟨hm, 0, none⟩), .int .i64 c] w fun e w' => e = .returned (.int .i64 ((qs.length : Int) - ((trimS qs c).length : Int))) ∧ Bt w'.heap.size W w' B h hm ps (trimS qs c) ∧ Nx b w w' := by
  obtain ⟨V, xs, U, ys, h1, h2, h3, rfl, h5, h6, h7, h8⟩ := a
  refine (rktrim_any h2 ok c).mono ?_
  rintro e w' ⟨rfl, U', ys', g3, g4, g5⟩
  obtain ⟨c1, c2⟩ := doc_step h1 h2 h3 h5 h6 h7 h8 g3 g4 g5
  exact ⟨by rw [List.length_map], c1, c2⟩

theorem bt_get (a : Bt b W w B h hm ps qs) (ok : Okp ps) (n : Int) : Calls Try.prog 21 #[.pointer (some ⟨h, 0, none⟩), .int .i64 n] w (FirstPost w (getS ps n)) := by
  obtain ⟨V, xs, U, ys, h1, h2, rfl, h4, h5, h6, h7, h8⟩ := a
  exact tkget_any h1 ok n
theorem bt_aft (a : Bt b W w B h hm ps qs) (ok : Okp ps) (n : Int) : Calls Try.prog 23 #[.pointer (some ⟨h, 0, none⟩), .int .i64 n] w (FirstPost w (aftS ps n)) := by
  obtain ⟨V, xs, U, ys, h1, h2, rfl, h4, h5, h6, h7, h8⟩ := a
  exact tkaft_any h1 ok n
theorem rbt_get (a : Bt b W w B h hm ps qs) (ok : Okp qs) (n : Int) : Calls Try.prog 22 #[.pointer (some ⟨hm, 0, none⟩), .int .i64 n] w (RGetPost w (getS qs n)) := by
  obtain ⟨V, xs, U, ys, h1, h2, h3, rfl, h5, h6, h7, h8⟩ := a
  exact rkget_any h2 (by have := ok.size; simp at this; omega) n
theorem rbt_aft (a : Bt b W w B h hm ps qs) (ok : Okp qs) (n : Int) : Calls Try.prog 24 #[.pointer (some ⟨hm, 0, none⟩), .int .i64 n] w (RGetPost w (aftS qs n)) := by
  obtain ⟨V, xs, U, ys, h1, h2, h3, rfl, h5, h6, h7, h8⟩ := a
  exact rkaft_any h2 (by have := ok.size; simp at this; omega) n
theorem bt_len (a : Bt b W w B h hm ps qs) : Calls Try.prog 20 #[.pointer (some ⟨h, 0, none⟩)] w fun e w' => e = .returned (.int .i64 ps.length) ∧ w' = w := by
  obtain ⟨V, xs, U, ys, h1, h2, rfl, h4, h5, h6, h7, h8⟩ := a
  rw [List.length_map]
  exact tklen_any h1
theorem bt_lastq (a : Bt b W w B h hm ps qs) (ok : Okp ps) : Calls Try.prog 19 #[.pointer (some ⟨h, 0, none⟩)] w fun e w' => e = .returned (.int .i64 (lastN ps)) ∧ ∃ m, w' = w.drewN m := by
  obtain ⟨V, xs, U, ys, h1, h2, rfl, h4, h5, h6, h7, h8⟩ := a
  exact tklastq_any h1 (by have := ok.size; simp at this; omega)

/-- What a Put of the document's words leaves. -/
theorem putS_is (ps : List Pt) (M : Int) (l : List Int) (t : Int) : putS ps (lastN ps + 1) M l t = addS ps M l t ∧ putE ps (lastN ps + 1) M l t = addE ps M l t := by
  unfold putS putE
  exact ⟨if_pos rfl, if_pos rfl⟩
theorem putS_not {ps : List Pt} {n : Int} (hn : n ≠ lastN ps + 1) (M : Int) (l : List Int) (t : Int) : putS ps n M l t = ps ∧ putE ps n M l t = 1 := by
  unfold putS putE
  exact ⟨if_neg hn, if_neg hn⟩
theorem last_le (ps : List Pt) (M : Int) (l : List Int) (t : Int) : lastN (addS ps M l t) ≤ lastN ps + 1 := by
  rw [lastN_add]
  by_cases h : addE ps M l t = 0
  · rw [if_pos h]; omega
  · rw [if_neg h]; omega

end Go.Proofs.Ytodfjpjjcgdmeaa
