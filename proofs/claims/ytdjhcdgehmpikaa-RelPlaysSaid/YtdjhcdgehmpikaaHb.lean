/-
  The plain model of versions of rows (who sees which), a map of slices as a plain function, and the laws of look-up and store at it.
-/
import Derived.Test.YtdjhcdgehmpikaaTb
import Derived.Test.YtdjhcdgehmpikaaHa
namespace Go.Proofs.Ytdjhcdgehmpikaa
open Go.RowKit Go.Maps

/-- A version: its row's text, by whom it was born, by whom it died. -/
structure Vr where
  txt : ByteArray
  birth : Int
  death : Int

/-- A view: whom it sees, and who one is. -/
structure Vw where
  mx : Int
  opl : List Int
  own : Int

def did (st : List Nat) (V : Vw) (x : Int) : Bool := (decide (0 < x) && decide (x = V.own)) || (stAt st x == 2 && seesB V.mx V.opl x)
def sees (st : List Nat) (V : Vw) (r : Vr) : Bool := did st V r.birth && !did st V r.death
def binds (st : List Nat) (V : Vw) (x : Int) : Bool := stAt st x == 2 || (decide (x ≠ V.own) && stAt st x == 1)
def inWay (st : List Nat) (V : Vw) (r : Vr) : Bool := (binds st V r.birth && decide (r.death ≠ V.own)) && !(stAt st r.death == 2)
def alive (st : List Nat) (r : Vr) : Bool := stAt st r.birth == 2 && !(stAt st r.death == 2)

/-- A function that is another one at one place. -/
def updF {α : Type} (F : Int → α) (k : Int) (v : α) : Int → α := fun q => if q = k then v else F q
theorem updF_same {α : Type} (F : Int → α) (k : Int) (v : α) : updF F k v k = v := by simp [updF]
theorem updF_other {α : Type} (F : Int → α) {k q : Int} (v : α) (h : q ≠ k) : updF F k v q = F q := by simp [updF, h]

/-- A key among keys that rise. -/
def insK (k : Int) : List Int → List Int
  | [] => [k]
  | a :: r => if k < a then k :: a :: r else if k = a then a :: r else a :: insK k r

theorem mem_insK {k x : Int} : ∀ {l : List Int}, x ∈ insK k l ↔ x = k ∨ x ∈ l
  | [] => by simp [insK]
  | a :: r => by
    have ih := mem_insK (k := k) (x := x) (l := r)
    unfold insK
    split
    · simp
    · split
      · rename_i h; subst h; simp
      · simp only [List.mem_cons, ih]
        constructor
        · rintro (h | h | h)
          · exact .inr (.inl h)
          · exact .inl h
          · exact .inr (.inr h)
        · rintro (h | h | h)
          · exact .inr (.inl h)
          · exact .inl h
          · exact .inr (.inr h)

theorem insK_sorted {k : Int} : ∀ {l : List Int}, l.Pairwise (· < ·) → (insK k l).Pairwise (· < ·)
  | [], _ => by simp [insK]
  | a :: r, h => by
    obtain ⟨h1, h2⟩ := List.pairwise_cons.1 h
    have ih := insK_sorted (k := k) h2
    unfold insK
    split
    · rename_i hk
      refine List.pairwise_cons.2 ⟨fun y hy => ?_, h⟩
      rcases List.mem_cons.1 hy with rfl | hy
      · exact hk
      · have := h1 y hy; omega
    · split
      · exact h
      · refine List.pairwise_cons.2 ⟨fun y hy => ?_, ih⟩
        rcases mem_insK.1 hy with rfl | hy
        · omega
        · exact h1 y hy

theorem insK_of_mem {k : Int} : ∀ {l : List Int}, l.Pairwise (· < ·) → k ∈ l → insK k l = l
  | [], _, h => by simp at h
  | a :: r, h, hk => by
    obtain ⟨h1, h2⟩ := List.pairwise_cons.1 h
    unfold insK
    rcases List.mem_cons.1 hk with rfl | hk
    · rw [if_neg (by omega), if_pos rfl]
    · have := h1 k hk
      rw [if_neg (by omega), if_neg (by omega), insK_of_mem h2 hk]

theorem insK_length (k : Int) : ∀ l : List Int, (insK k l).length ≤ l.length + 1 ∧ l.length ≤ (insK k l).length
  | [] => by simp [insK]
  | a :: r => by
    have ih := insK_length k r
    unfold insK
    split
    · simp
    · split
      · simp
      · simp; omega

/-- How a map of slices reads: by its values themselves. -/
def Rh (v : Value) : Option (DataW Value × List MemPlace) := some (.held v, [])
def Tm (ks : List Int) (S : Int → Value) : DataW Value := .map (ks.map fun k => (.int .i64 k, .held (S k)))

theorem size_Tm (ks : List Int) (S : Int → Value) : Maps.size (Tm ks S) = ks.length := by simp [Maps.size, Tm]

theorem intKeys_Tm (ks : List Int) (S : Int → Value) : intKeys (Tm ks S) = ks := by
  simp only [intKeys, Tm, List.map_map]
  conv => rhs; rw [← List.map_id ks]
  rfl

theorem at_Tm (x : Int) (S : Int → Value) (z : Value) (ks : List Int) : (Tm ks S).atKey (.int .i64 x) (.held z) = .held (if x ∈ ks then S x else z) := by
  simp only [DataW.atKey, Tm]
  induction ks with
  | nil => simp
  | cons y r ih =>
    rw [List.map_cons, List.find?_cons]
    by_cases h : y = x
    · subst h; simp [Lit.sameKey]
    · have h' : ¬ x = y := fun e => h e.symm
      simp only [Lit.sameKey, h, and_false, decide_false, List.mem_cons, h', false_or]
      exact ih

theorem put_Tm (k : Int) (S : Int → Value) (v : Value) : ∀ {ks : List Int}, ks.Pairwise (· < ·) → (Tm ks S).put (.int .i64 k) (.held v) = Tm (insK k ks) (updF S k v) := by
  have key : ∀ ks : List Int, ks.Pairwise (· < ·) →
      DataW.insert ((.int .i64 k, .held v) : Lit × DataW Value) ((ks.map fun q => ((.int .i64 q, .held (S q)) : Lit × DataW Value)).filter fun p => !p.1.sameKey (.int .i64 k)) = (insK k ks).map fun q => (.int .i64 q, .held (updF S k v q)) := by
    intro ks
    induction ks with
    | nil => intro _; simp [insK, DataW.insert, updF]
    | cons a r ih =>
      intro h
      obtain ⟨h1, h2⟩ := List.pairwise_cons.1 h
      have ih := ih h2
      have rest : ∀ l : List Int, (∀ y ∈ l, k < y) → (l.map fun q => ((.int .i64 q, .held (S q)) : Lit × DataW Value)).filter (fun p => !p.1.sameKey (.int .i64 k)) = l.map fun q => ((.int .i64 q, .held (updF S k v q)) : Lit × DataW Value) := by
        intro l hl
        rw [List.filter_eq_self.2]
        · apply List.map_congr_left
          intro y hy
          rw [updF_other S v (by have := hl y hy; omega)]
        · intro p hp
          obtain ⟨y, hy, rfl⟩ := List.mem_map.1 hp
          have := hl y hy
          simp [Lit.sameKey]
          omega
      rw [List.map_cons]
      by_cases e : a = k
      · subst e
        rw [List.filter_cons, if_neg (by simp [Lit.sameKey]), rest r h1]
        unfold insK
        rw [if_neg (by omega), if_pos rfl, List.map_cons, updF_same]
        cases r with
        | nil => rfl
        | cons b r => 
          rw [List.map_cons, DataW.insert, if_pos (by simp [Lit.before]; exact h1 b (by simp))]
      · rw [List.filter_cons, if_pos (by simp [Lit.sameKey]; omega)]
        by_cases hlt : k < a
        · rw [DataW.insert, if_pos (by simp [Lit.before]; exact hlt), rest r (fun y hy => by have := h1 y hy; omega)]
          unfold insK
          rw [if_pos hlt, List.map_cons, List.map_cons, updF_same, updF_other S v e]
        · rw [DataW.insert, if_neg (by simp [Lit.before]; omega), ih]
          rw [show insK k (a :: r) = a :: insK k r by rw [insK, if_neg hlt, if_neg (fun h => e h.symm)], List.map_cons, updF_other S v e]
  intro ks h
  simp only [DataW.put, Tm]
  rw [key ks h]

/-- A map of numbers to slices, of the call's own. -/
abbrev Mpv (w : World) (b n : Nat) (ks : List Int) (S : Int → Value) : Prop := w.ownsMap Try.prog 2 Rh b n (Tm ks S)

theorem look_slice {w : World} {b n : Nat} {ks : List Int} {S : Int → Value} (h : Mpv w b n ks S) (hn : ∀ k, k ∉ ks → S k = .slice none 0 0) (x : Int) (hx : (Lit.int .i64 x).wf = true) :
    (Instr.lookup 114 (.map (some b)) (.int .i64 x) false).run Try.prog w = .ok (S x) w := by
  have hz : (zeroValue 117).run Try.prog w = .ok (.slice none 0 0) w := Try.zeroValue117 w
  obtain ⟨v, ps, hrun, hv⟩ := h.lookup keyed Try.underlying114 hz (zd := .held (.slice none 0 0)) (zp := []) rfl (key_of hx)
  rw [at_Tm] at hv
  simp only [Rh, Option.some.injEq, Prod.mk.injEq, DataW.held.injEq] at hv
  obtain ⟨rfl, _⟩ := hv
  rw [hrun]
  by_cases hk : x ∈ ks
  · rw [if_pos hk]
  · rw [if_neg hk, hn x hk]

end Go.Proofs.Ytdjhcdgehmpikaa
