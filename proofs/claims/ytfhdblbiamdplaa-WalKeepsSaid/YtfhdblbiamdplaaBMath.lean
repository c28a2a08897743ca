/-
  Plain facts on a device: blocks of 32 bytes, writes that wait; what a read, a sync, a crash makes. No program in sight.
-/
import Derived.Laws.CopyOwn
namespace Go.Proofs.Ytfhdblbiamdplaa

/-- A write that waits: its block, how many bytes, the block's bytes. -/
structure Wt where
  blk : Nat
  size : Nat
  bytes : List UInt8

/-- One that can be: of a block that there is. -/
def Wt.ok (n : Nat) (x : Wt) : Prop := x.blk < n ∧ x.size ≤ 32 ∧ x.bytes.length = 32

/-- The bytes of block i. -/
def blkOf (L : List UInt8) (i : Nat) : List UInt8 := (L.drop (32 * i)).take 32

/-- Bytes laid over others at block i. -/
def lay (L : List UInt8) (i : Nat) (p : List UInt8) : List UInt8 := splice L (32 * i) p

theorem splice_at (L cs : List UInt8) (o : Nat) (h : o + cs.length ≤ L.length) (x : Nat) : (splice L o cs)[x]? = if o ≤ x ∧ x < o + cs.length then cs[x - o]? else L[x]? := by
  unfold splice
  rw [List.getElem?_append]
  by_cases h1 : x < o
  · rw [if_pos (by simp; omega), if_neg (by omega), List.getElem?_take, if_pos h1]
  · rw [if_neg (by simp; omega), List.getElem?_append]
    have e : (L.take o).length = o := by simp; omega
    rw [e]
    by_cases h2 : x < o + cs.length
    · rw [if_pos (by omega), if_pos (by omega)]
    · rw [if_neg (by omega), if_neg (by omega), List.getElem?_drop]
      congr 1
      omega

theorem lay_length (L p : List UInt8) (i : Nat) (h : 32 * i + p.length ≤ L.length) : (lay L i p).length = L.length := length_splice _ _ _ h

theorem blkOf_at (L : List UInt8) (i x : Nat) : (blkOf L i)[x]? = if x < 32 then L[32 * i + x]? else none := by
  unfold blkOf
  rw [List.getElem?_take]
  by_cases h : x < 32
  · rw [if_pos h, if_pos h, List.getElem?_drop]
  · rw [if_neg h, if_neg h]

theorem blkOf_length (L : List UInt8) (n i : Nat) (hL : L.length = 32 * n) (hi : i < n) : (blkOf L i).length = 32 := by
  unfold blkOf
  simp
  omega

/-- What the writes make of bytes, one over the other. -/
def laid (L : List UInt8) (ws : List (Nat × List UInt8)) : List UInt8 := ws.foldl (fun a x => lay a x.1 x.2) L

/-- Writes that can be. -/
def Okw (n : Nat) (ws : List (Nat × List UInt8)) : Prop := ∀ x ∈ ws, x.1 < n ∧ x.2.length ≤ 32

theorem Okw.tail {n : Nat} {x : Nat × List UInt8} {ws : List (Nat × List UInt8)} (h : Okw n (x :: ws)) : Okw n ws := fun y hy => h y (by simp [hy])
theorem Okw.snoc {n : Nat} {ws : List (Nat × List UInt8)} (h : Okw n ws) {i : Nat} {p : List UInt8} (hi : i < n) (hp : p.length ≤ 32) : Okw n (ws ++ [(i, p)]) := fun y hy => by
  rcases List.mem_append.1 hy with h1 | h1
  · exact h y h1
  · obtain rfl : y = (i, p) := by simpa using h1
    exact ⟨hi, hp⟩

theorem laid_length (n : Nat) (ws : List (Nat × List UInt8)) : ∀ (L : List UInt8), L.length = 32 * n → Okw n ws → (laid L ws).length = 32 * n := by
  induction ws with
  | nil => intro L h _; exact h
  | cons x ws ih =>
    intro L h ho
    obtain ⟨h1, h2⟩ := ho x (by simp)
    exact ih (lay L x.1 x.2) (by rw [lay_length _ _ _ (by omega), h]) ho.tail

theorem laid_snoc (L : List UInt8) (ws : List (Nat × List UInt8)) (i : Nat) (p : List UInt8) : laid L (ws ++ [(i, p)]) = lay (laid L ws) i p := by
  simp [laid]

theorem lay_off (L p : List UInt8) (n i : Nat) (hL : L.length = 32 * n) (hi : i < n) (hp : p.length ≤ 32) (x : Nat) (hx : x / 32 ≠ i) : (lay L i p)[x]? = L[x]? := by
  unfold lay
  rw [splice_at _ _ _ (by omega), if_neg (by omega)]

/-- A block that none of the writes names is as it was. -/
theorem laid_off (n : Nat) (ws : List (Nat × List UInt8)) : ∀ (L : List UInt8), L.length = 32 * n → Okw n ws → ∀ x, (∀ y ∈ ws, x / 32 ≠ y.1) → (laid L ws)[x]? = L[x]? := by
  induction ws with
  | nil => intro L _ _ x _; rfl
  | cons y ws ih =>
    intro L h ho x hx
    obtain ⟨h1, h2⟩ := ho y (by simp)
    have := ih (lay L y.1 y.2) (by rw [lay_length _ _ _ (by omega), h]) ho.tail x (fun z hz => hx z (by simp [hz]))
    exact this.trans (lay_off L y.2 n y.1 h h1 h2 x (hx y (by simp)))

/-- Whole blocks carried from one row to another. -/
def carry (from_ : List UInt8) (is : List Nat) (L : List UInt8) : List UInt8 := is.foldl (fun a i => lay a i (blkOf from_ i)) L

theorem carry_snoc (f L : List UInt8) (is : List Nat) (i : Nat) : carry f (is ++ [i]) L = lay (carry f is L) i (blkOf f i) := by simp [carry]

theorem carry_at (n : Nat) (f : List UInt8) (hf : f.length = 32 * n) (is : List Nat) : ∀ (L : List UInt8), L.length = 32 * n → (∀ i ∈ is, i < n) →
    (carry f is L).length = 32 * n ∧ ∀ x, (carry f is L)[x]? = if x / 32 ∈ is then f[x]? else L[x]? := by
  induction is with
  | nil => intro L h _; exact ⟨h, fun x => by simp [carry]⟩
  | cons i is ih =>
    intro L h hi
    have h1 := hi i (by simp)
    have hb := blkOf_length f n i hf h1
    obtain ⟨k1, k2⟩ := ih (lay L i (blkOf f i)) (by rw [lay_length _ _ _ (by omega), h]) (fun j hj => hi j (by simp [hj]))
    refine ⟨k1, fun x => ?_⟩
    refine (k2 x).trans ?_
    by_cases hx : x / 32 ∈ is
    · rw [if_pos hx, if_pos (by simp [hx])]
    · rw [if_neg hx]
      by_cases hxi : x / 32 = i
      · rw [if_pos (by simp [hxi])]
        unfold lay
        rw [splice_at _ _ _ (by omega), if_pos (by omega), blkOf_at, if_pos (by omega)]
        congr 1
        omega
      · rw [if_neg (by simp [hxi, hx]), lay_off L _ n i h h1 (by omega) x hxi]

/-- All blocks in which two rows may part being carried, they are one. -/
theorem carry_eq (n : Nat) (f L : List UInt8) (is : List Nat) (hf : f.length = 32 * n) (hL : L.length = 32 * n) (hi : ∀ i ∈ is, i < n) (h : ∀ x, x / 32 ∉ is → L[x]? = f[x]?) : carry f is L = f := by
  obtain ⟨_, k2⟩ := carry_at n f hf is L hL hi
  apply List.ext_getElem?
  intro x
  rw [k2 x]
  by_cases hx : x / 32 ∈ is
  · rw [if_pos hx]
  · rw [if_neg hx, h x hx]

/-- What of the writes a crash leaves: the i-th is gone if lost says so; the last one is torn. 'm': how many there are in all, 'k': the first one's place. -/
def left (lost : List Bool) (torn : Int) (m : Nat) : Nat → List (Nat × List UInt8) → List (Nat × List UInt8)
  | _, [] => []
  | k, x :: r => if lost.getD k false then left lost torn m (k + 1) r
    else (x.1, if k + 1 = m then x.2.take torn.toNat else x.2) :: left lost torn m (k + 1) r

theorem left_ok (n : Nat) (lost : List Bool) (torn : Int) (m : Nat) (ws : List (Nat × List UInt8)) : ∀ k, Okw n ws → Okw n (left lost torn m k ws) := by
  induction ws with
  | nil => intro k h; exact h
  | cons x r ih =>
    intro k h y hy
    rw [left] at hy
    by_cases hl : lost.getD k false = true
    · rw [if_pos hl] at hy
      exact ih (k + 1) h.tail y hy
    · rw [if_neg hl] at hy
      rcases List.mem_cons.1 hy with rfl | h1
      · obtain ⟨h2, h3⟩ := h x (by simp)
        refine ⟨h2, ?_⟩
        show (if k + 1 = m then x.2.take torn.toNat else x.2).length ≤ 32
        split
        · simp; omega
        · exact h3
      · exact ih (k + 1) h.tail y h1

theorem left_blk (lost : List Bool) (torn : Int) (m : Nat) (ws : List (Nat × List UInt8)) : ∀ k, ∀ y ∈ left lost torn m k ws, ∃ x ∈ ws, x.1 = y.1 := by
  induction ws with
  | nil => intro k y hy; simp [left] at hy
  | cons x r ih =>
    intro k y hy
    rw [left] at hy
    by_cases hl : lost.getD k false = true
    · rw [if_pos hl] at hy
      obtain ⟨z, hz, e⟩ := ih (k + 1) y hy
      exact ⟨z, by simp [hz], e⟩
    · rw [if_neg hl] at hy
      rcases List.mem_cons.1 hy with rfl | h1
      · exact ⟨x, by simp, rfl⟩
      · obtain ⟨z, hz, e⟩ := ih (k + 1) y h1
        exact ⟨z, by simp [hz], e⟩

/-- The first k of them, from the front. -/
theorem left_take (lost : List Bool) (torn : Int) (m : Nat) (ws : List (Nat × List UInt8)) (x : Nat × List UInt8) : ∀ k, left lost torn m k (ws ++ [x]) =
    left lost torn m k ws ++ (if lost.getD (k + ws.length) false then [] else [(x.1, if k + ws.length + 1 = m then x.2.take torn.toNat else x.2)]) := by
  induction ws with
  | nil => intro k; simp only [List.nil_append, left, List.length_nil, Nat.add_zero]
  | cons y r ih =>
    intro k
    rw [List.cons_append, left, left, ih (k + 1), List.length_cons]
    have e : k + 1 + r.length = k + (r.length + 1) := by omega
    rw [e]
    split
    · rfl
    · rfl

/-- The bytes that a write has told. -/
def Wt.pair (x : Wt) : Nat × List UInt8 := (x.blk, x.bytes.take x.size)

def pairs (ws : List Wt) : List (Nat × List UInt8) := ws.map Wt.pair

theorem pairs_ok {n : Nat} {ws : List Wt} (h : ∀ x ∈ ws, x.ok n) : Okw n (pairs ws) := fun y hy => by
  obtain ⟨x, hx, rfl⟩ := List.mem_map.1 hy
  obtain ⟨h1, h2, h3⟩ := h x hx
  exact ⟨h1, by simp [Wt.pair]; omega⟩

theorem pairs_snoc (ws : List Wt) (i : Nat) (l Z : List UInt8) : pairs (ws ++ [⟨i, l.length, splice Z 0 l⟩]) = pairs ws ++ [(i, l)] := by
  have e : (splice Z 0 l).take l.length = l := by simp [splice]
  simp only [pairs, List.map_append, List.map_cons, List.map_nil, Wt.pair, e]

theorem pairs_blk (ws : List Wt) (y : Nat × List UInt8) (h : y ∈ pairs ws) : y.1 ∈ ws.map Wt.blk := by
  obtain ⟨x, hx, rfl⟩ := List.mem_map.1 h
  exact List.mem_map.2 ⟨x, hx, rfl⟩

/-- Behind a crash the blocks as they are now are those that are safe. -/
theorem crash_now (n : Nat) (safe now : List UInt8) (ws : List Wt) (lost : List Bool) (torn : Int) (hs : safe.length = 32 * n) (hw : ∀ x ∈ ws, x.ok n) (hnow : now = laid safe (pairs ws)) :
    carry (laid safe (left lost torn ws.length 0 (pairs ws))) (ws.map Wt.blk) now = laid safe (left lost torn ws.length 0 (pairs ws)) := by
  have ho := pairs_ok hw
  refine carry_eq n _ _ _ (laid_length n _ _ hs (left_ok n _ _ _ _ _ ho)) (by rw [hnow]; exact laid_length n _ _ hs ho) (fun i hi => ?_) (fun x hx => ?_)
  · obtain ⟨y, hy, rfl⟩ := List.mem_map.1 hi
    exact (hw y hy).1
  · rw [hnow, laid_off n _ _ hs ho x (fun y hy e => hx (e ▸ pairs_blk ws y hy)), laid_off n _ _ hs (left_ok n _ _ _ _ _ ho) x (fun y hy e => ?_)]
    obtain ⟨z, hz, ez⟩ := left_blk _ _ _ _ _ y hy
    exact hx (by rw [e, ← ez]; exact pairs_blk ws z hz)

/-- Behind a sync what is safe is what is there now. -/
theorem sync_safe (n : Nat) (safe now : List UInt8) (ws : List Wt) (hs : safe.length = 32 * n) (hw : ∀ x ∈ ws, x.ok n) (hnow : now = laid safe (pairs ws)) : carry now (ws.map Wt.blk) safe = now := by
  have ho := pairs_ok hw
  refine carry_eq n _ _ _ (by rw [hnow]; exact laid_length n _ _ hs ho) hs (fun i hi => ?_) (fun x hx => ?_)
  · obtain ⟨y, hy, rfl⟩ := List.mem_map.1 hi
    exact (hw y hy).1
  · rw [hnow, laid_off n _ _ hs ho x (fun y hy e => hx (e ▸ pairs_blk ws y hy))]

/-- A block behind a write of it, byte by byte; another one's block is as it was. -/
theorem blk_lay (n : Nat) (L p : List UInt8) (i j : Nat) (hL : L.length = 32 * n) (hi : i < n) (hp : p.length ≤ 32) (x : Nat) (hx : x < 32) : (blkOf (lay L i p) j)[x]? = if i = j ∧ x < p.length then p[x]? else (blkOf L j)[x]? := by
  rw [blkOf_at, if_pos hx, blkOf_at, if_pos hx, lay, splice_at _ _ _ (by omega)]
  by_cases h : i = j ∧ x < p.length
  · obtain ⟨rfl, h2⟩ := h
    rw [if_pos (by omega), if_pos ⟨rfl, h2⟩]
    congr 1
    omega
  · rw [if_neg (by omega), if_neg h]

end Go.Proofs.Ytfhdblbiamdplaa
