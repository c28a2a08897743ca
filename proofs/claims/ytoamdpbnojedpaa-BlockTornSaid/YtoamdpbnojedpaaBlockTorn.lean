/-
  Proved: whatever the arguments are, carrierlaw03.BlockTorn answers true and leaves its arguments as they were. No condition.
-/
import Derived.Test.YtoamdpbnojedpaaLawKit
namespace Go.Proofs.Ytoamdpbnojedpaa.blockTorn
open Go.ChangeShapes Go.WideShapes Go.ChangeAt Go.RowKit
set_option linter.unusedVariables false

theorem own : ownKnob Try.prog.godebug = none := by kernel_rfl
theorem laidOut : laidOutB Try.prog = true := by kernel_rfl

/-- The bytes of 'first'. -/
def firstL : List UInt8 := [102, 105, 114, 115, 116]

theorem set_fill (k i : Nat) (l : List UInt8) (b : UInt8) (hl : l.length = k) (hi : i < k) (h : l.take i = List.replicate i b) : (l.set i b).take (i + 1) = List.replicate (i + 1) b := by
  rw [List.take_add_one, List.take_set_of_le (Nat.le_refl _), h, List.getElem?_set_self (by omega)]
  simp [List.replicate_succ']

/-- What is safe, and there, behind the crash. -/
theorem torn_state (now safe p : List UInt8) (lost : Bool) (torn : Int) (hnow : now = lay (lay (noughts 2) 0 firstL) 1 p) (hp : p.length ≤ 32) :
    carry (safeTo [false, lost] torn ([] ++ [⟨0, firstL.length, splice (noughts 1) 0 firstL⟩] ++ [⟨1, p.length, splice (noughts 1) 0 p⟩]) (noughts 2) ([] ++ [(⟨0, firstL.length, splice (noughts 1) 0 firstL⟩ : Wt)] ++ [(⟨1, p.length, splice (noughts 1) 0 p⟩ : Wt)]).length) (([] ++ [(⟨0, firstL.length, splice (noughts 1) 0 firstL⟩ : Wt)] ++ [(⟨1, p.length, splice (noughts 1) 0 p⟩ : Wt)]).map Wt.blk) now =
      if lost then lay (noughts 2) 0 firstL else lay (lay (noughts 2) 0 firstL) 1 (p.take torn.toNat) := by
  have hlen : (noughts 2).length = 32 * 2 := by simp [noughts]
  have hok : ∀ x ∈ ([] ++ [(⟨0, firstL.length, splice (noughts 1) 0 firstL⟩ : Wt)] ++ [(⟨1, p.length, splice (noughts 1) 0 p⟩ : Wt)]), x.ok 2 := by
    intro x hx
    have z1 : (noughts 1).length = 32 := by simp [noughts]
    simp only [List.nil_append, List.cons_append, List.mem_cons, List.not_mem_nil, or_false] at hx
    rcases hx with rfl | rfl
    · exact ⟨by show 0 < 2; decide, by show firstL.length ≤ 32; decide, by show (splice (noughts 1) 0 firstL).length = 32; rw [length_splice _ _ _ (by rw [z1]; decide), z1]⟩
    · exact ⟨by show 1 < 2; decide, hp, by show (splice (noughts 1) 0 p).length = 32; rw [length_splice _ _ _ (by rw [z1]; omega), z1]⟩
  have hpairs : pairs ([] ++ [(⟨0, firstL.length, splice (noughts 1) 0 firstL⟩ : Wt)] ++ [(⟨1, p.length, splice (noughts 1) 0 p⟩ : Wt)]) = [(0, firstL), (1, p)] := by
    rw [pairs_snoc, pairs_snoc]; rfl
  rw [safeTo_all, crash_now 2 (noughts 2) now _ _ _ hlen hok (by rw [hpairs, hnow]; rfl), hpairs]
  cases lost
  · simp [left, laid]
  · simp [left, laid]

theorem torn_bytes (p : List UInt8) (k : Nat) (b : UInt8) (lost : Bool) (torn : Int) (to : Nat) (hp : p = List.replicate k b) (hk : k ≤ 32) (hto : to = if lost then 0 else min torn.toNat k) (x : Nat) (hx : x < 32) :
    (blkOf (if lost then lay (noughts 2) 0 firstL else lay (lay (noughts 2) 0 firstL) 1 (p.take torn.toNat)) 1).getD x 0 = if x < to then b else 0 := by
  have hlen : (noughts 2).length = 32 * 2 := by simp [noughts]
  have h1 : (lay (noughts 2) 0 firstL).length = 32 * 2 := by rw [lay_length _ _ _ (by rw [hlen]; decide), hlen]
  have hz : (blkOf (lay (noughts 2) 0 firstL) 1)[x]? = some 0 := by
    rw [blk_lay 2 _ _ _ _ hlen (by decide) (by decide) x hx, if_neg (by omega), blkOf_at, if_pos hx, noughts, List.getElem?_replicate, if_pos (by omega)]
  cases lost
  · simp only [Bool.false_eq_true, if_false] at hto ⊢
    have hl : (p.take torn.toNat).length = to := by rw [hp, hto]; simp
    rw [List.getD, blk_lay 2 _ _ _ _ h1 (by decide) (by omega) x hx, hl]
    by_cases h : x < to
    · rw [if_pos ⟨rfl, h⟩, if_pos h, hp, List.getElem?_take, if_pos (by omega), List.getElem?_replicate, if_pos (by omega)]
      rfl
    · rw [if_neg (by omega), if_neg h, hz]
      rfl
  · simp only [if_true] at hto ⊢
    subst hto
    rw [List.getD, hz, if_neg (by omega)]
    rfl

theorem torn_first (p : List UInt8) (lost : Bool) (torn : Int) (hp : p.length ≤ 32) : (blkOf (if lost then lay (noughts 2) 0 firstL else lay (lay (noughts 2) 0 firstL) 1 (p.take torn.toNat)) 0).take 5 = firstL := by
  have hlen : (noughts 2).length = 32 * 2 := by simp [noughts]
  have h1 : (lay (noughts 2) 0 firstL).length = 32 * 2 := by rw [lay_length _ _ _ (by rw [hlen]; decide), hlen]
  have h5 : firstL.length = 5 := rfl
  have hf : ∀ x, x < 5 → (blkOf (lay (noughts 2) 0 firstL) 0)[x]? = firstL[x]? := fun x hx => by
    rw [blk_lay 2 _ _ _ _ hlen (by decide) (by decide) x (by omega), if_pos ⟨rfl, by omega⟩]
  apply List.ext_getElem?
  intro x
  rw [List.getElem?_take]
  by_cases hx : x < 5
  · rw [if_pos hx]
    cases lost
    · simp only [Bool.false_eq_true, if_false]
      rw [blk_lay 2 _ _ _ _ h1 (by decide) (by simp; omega) x (by omega), if_neg (by omega)]
      exact hf x hx
    · simp only [if_true]
      exact hf x hx
  · rw [if_neg hx, List.getElem?_eq_none (by omega)]

set_option maxHeartbeats 4000000 in
set_option maxRecDepth 100000 in
theorem walk (a0 a1 : Int) (a2 : Bool) (a3 : Int) (w0 : (Lit.int .u8 a0).wf = true) (w1 : (Lit.int .i64 a1).wf = true) (w3 : (Lit.int .u8 a3).wf = true) (W : World) :
    Calls Try.prog 6 #[.int .u8 a0, .int .i64 a1, .bool a2, .int .u8 a3] W fun e w' => e = .returned (.bool true) ∧ Below W.heap.size W w' := by
  obtain ⟨b, rfl⟩ := byte_of w3
  have hb0 := bounds_u8 w0
  have hb1 := bounds_i64 w1
  clear w0 w1 w3
  obtain ⟨k, hk⟩ : ∃ k : Nat, a0 % 33 = (k : Int) := ⟨(a0 % 33).toNat, by omega⟩
  have hk32 : k ≤ 32 := by omega
  have Hk := Lib.hid hk
  have kc := fun (w : World) (C : Array Value) (n c : Nat) => Lib.run_convert_bytes_const (P := Try.prog) w 29 5 C n c Try.underlying29 Try.underlying5
  go_enter Try.func6, Try.ntmps6
  go_wp2_with fail
  refine (kept_any W).mono ?_
  rintro e w1 ⟨rfl, hkk⟩
  have K1 := Lib.hid hkk; have hz1 := hkk.size; clear hkk
  go_wp2_with fail
  refine (new_any 2 w1).mono ?_
  rintro e w2 ⟨p, gn, gs, rfl, hd, hkk⟩
  have D2 := Lib.hid (show Dv w2 w1.heap.size p gn gs (.slice none 0 0) 2 (noughts 2) (noughts 2) [] from hd); have K2 := Lib.hid (K1.out.trans hkk (by simp)); have hz2 := hkk.size
  clear hd hkk
  go_wp2_with (refine wpList_make w2 rfl 29 _ _ rfl (.slice (some ⟨w2.heap.size, 0, none⟩) k k) (.cells (bc (List.replicate k 0)).toArray 5) (mk_bytes k (by omega) w2) ?_)
  intro w3 Hg3 Hk3 hz3
  clear hk hb0
  have O3 := Lib.hid (own_block Hg3.out (Nat.le_refl w2.heap.size) (List.length_replicate ..) (by unfold maxLen; omega))
  have K3 := Lib.hid (K2.out.trans Hk3.out (by simp))
  have D3 := Lib.hid (D2.out.frame (Fr.ofKept Hk3.out 0 []) (by simp) (by simp) (by simp))
  go_wp2
  go_loopw [12] (fun t wr => ∃ (i : Nat) (l' : List UInt8), t = .int .i64 i ∧ i ≤ k ∧ l'.length = k ∧ l'.take i = List.replicate i b ∧ Own wr w2.heap.size 5 (.slice (some ⟨w2.heap.size, 0, none⟩) k k) l' ∧ Kept w3 wr [w2.heap.size]) (fun t _ => k - (intOf t).toNat)
  case atStart => exact ⟨0, _, rfl, Nat.zero_le _, List.length_replicate .., rfl, O3.out, Kept.refl _ _⟩
  case round =>
    obtain ⟨i, l', rfl, hi, hl', htk, hown, hkept⟩ := hrel
    have Hown := Lib.hid hown; have Hkept := Lib.hid hkept; have Hl' := Lib.hid hl'; have Htk := Lib.hid htk
    clear hown hkept hl' htk
    by_cases hlt : i < k
    · obtain ⟨c0, f0⟩ := own_at Hown.out i (by rw [Hl'.out]; exact hlt)
      go_wp2
      go_roundw
      case rel => exact ⟨i + 1, l'.set i b, by go_num, by omega, by rw [List.length_set]; exact Hl'.out, set_fill k i l' b Hl'.out hlt Htk.out, own_store Hown.out i (by rw [Hl'.out]; exact hlt) b, Hkept.out.setCell (.inl (by simp)) _⟩
      case measure => simp [intOf]; omega
    · have hge : ¬ (i : Int) < (k : Int) := by omega
      have hp : l' = List.replicate k b := by
        have h1 := Htk.out
        have h2 : i = k := by omega
        rw [h2, List.take_of_length_le (by rw [Hl'.out]; exact Nat.le_refl _)] at h1
        exact h1
      clear hlt
      have K4 := Lib.hid (K3.out.trans Hkept.out (by intro x hx; simp at hx; exact .inr (by omega)))
      have D4 := Lib.hid (D3.out.keptOwn O3.out (by simpa [Value.ownBlock] using Hkept.out))
      have Hp := Lib.hid hp
      clear hp
      have hz4 := Hkept.out.size
      go_wp2_with fail
      refine (write_ok (D4.out.frame ((Fr.refl 0 [] wr).alloc _) (by simp) (by simp) (by simp)) 0 (by decide) _ firstL (by decide) (rb_lit wr _ firstL _ _ _ 5 rfl rfl) (by decide) (by simp; omega)).mono ?_
      rintro e w5 ⟨rfl, v5, hd, hf⟩
      have D5 := Lib.hid hd; have K5 := Lib.hid ((K4.out.alloc _).later hf hz1); have hz5 := hf.size
      have O5 := Lib.hid (show Own w5 w2.heap.size 5 (.slice (some ⟨w2.heap.size, 0, none⟩) k k) l' from ownsRow_frame (Own.kept Hown.out ((Kept.refl wr []).alloc _) (by simp)) hf (by decide))
      have hz5b : w3.heap.size ≤ w5.heap.size := by simp at hz5; omega
      clear hd hf hz5
      have hlk := Hl'.out
      go_wp2_with fail
      refine (write_ok D5.out 1 (by decide) _ l' (by omega) (by have := O5.out.rb w1.heap.size; exact this) (by simp) (by omega)).mono ?_
      rintro e w6 ⟨rfl, v6, hd, hf⟩
      have D6 := Lib.hid hd; have K6 := Lib.hid (K5.out.later hf hz1)
      clear hd hf hlk
      go_wp2_with fail
      refine (crash_any (D6.out.frame ((Fr.refl 0 [] w6).alloc _) (by simp) (by simp) (by simp)) (by simp) _ [false, a2] (rbB_lit w6 _ _ _ _ _ 2 rfl rfl) a1).mono ?_
      rintro e w7 ⟨rfl, hd, hf⟩
      rw [torn_state _ (noughts 2) l' a2 a1 rfl (by rw [Hl'.out]; exact hk32)] at hd
      have hfst := torn_first l' a2 a1 (by rw [Hl'.out]; exact hk32)
      obtain ⟨to, hto⟩ : ∃ to, to = if a2 then 0 else min a1.toNat k := ⟨_, rfl⟩
      have hbytes := torn_bytes l' k b a2 a1 to Hp.out hk32 hto
      generalize (if a2 then lay (noughts 2) 0 firstL else lay (lay (noughts 2) 0 firstL) 1 (l'.take a1.toNat)) = now7 at hd hfst hbytes
      have D7 := Lib.hid hd; have K7 := Lib.hid ((K6.out.alloc _).later hf hz1); have Hfst := Lib.hid hfst; have Hbytes := Lib.hid hbytes; have Hto := Lib.hid hto
      clear hd hf hfst hbytes hto
      have hl0 : (blkOf now7 0).length = 32 := blkOf_length _ 2 0 D7.out.ln (by decide)
      have hl1 : (blkOf now7 1).length = 32 := blkOf_length _ 2 1 D7.out.ln (by decide)
      have Hl0 := Lib.hid hl0; have Hl1 := Lib.hid hl1
      clear hl0 hl1
      go_wp2_with fail
      refine (read_ok D7.out 0 (by decide)).mono ?_
      rintro e w8 ⟨v8, rfl, ho, hk8⟩
      obtain ⟨a8, c8, hv8⟩ := ho.shape
      rw [Hl0.out] at hv8
      subst hv8
      have O8 := Lib.hid ho; have K8 := Lib.hid (K7.out.trans hk8 (by simp))
      have D8 := Lib.hid (D7.out.frame (Fr.ofKept hk8 0 []) (by simp) (by simp) (by simp))
      clear ho hk8
      go_wp2_with fail
      refine (read_ok D8.out 1 (by decide)).mono ?_
      rintro e w9 ⟨v9, rfl, ho, hk9⟩
      obtain ⟨a9, c9, hv9⟩ := ho.shape
      rw [Hl1.out] at hv9
      subst hv9
      have O9 := Lib.hid (Own.kept O8.out hk9 (by simp)); have K9 := Lib.hid (K8.out.trans hk9 (by simp))
      obtain ⟨g9, rfl⟩ := own_addr ho (by decide)
      obtain ⟨g8, rfl⟩ := own_addr O9.out (by decide)
      have hc8 : 32 ≤ c8 := by
        obtain ⟨_, c', e1, h2, _⟩ := O9.out.rd
        simp only [Value.slice.injEq] at e1
        rw [Hl0.out] at h2
        omega
      have hstr := run_str (P := Try.prog) w9 29 9 5 Try.underlying29 Try.underlying5 Try.underlying9 ⟨g8, 0, none⟩ c8 firstL 5 rfl (by
        intro j u hu
        rw [← Hfst.out] at hu
        obtain ⟨hj, rfl⟩ := bc_get _ j u hu
        rw [List.length_take, Hl0.out] at hj
        have := World.ownsRow.cells O9.out (g := g8) rfl j _ (bc_at _ j (by rw [Hl0.out]; omega))
        rw [this]
        congr 3
        rw [List.getD, List.getD, List.getElem?_take, if_pos (by omega)])
      have Hcell : RowKit.Hid (∀ j, j < 32 → w9.cell? ⟨g9, j, none⟩ = some (.int .u8 (((if j < to then b else 0 : UInt8).toNat : Int)))) := Lib.hid (fun j hj => by
        rw [← Hbytes.out j hj]
        have := World.ownsRow.cells ho (g := g9) rfl j _ (bc_at _ j (by rw [Hl1.out]; exact hj))
        rw [Addr.add_lit, Nat.zero_add] at this
        exact this)
      clear ho hk9
      have hfl : firstL.toArray = #[102, 105, 114, 115, 116] := rfl
      rw [hfl] at hstr
      by_cases hl : a2 = true
      · subst hl
        obtain rfl : to = 0 := Hto.out
        by_cases h0 : a1 < 0
        · go_wp2
          go_loop [18] (fun t => ∃ j : Nat, t = .int .i64 j ∧ j ≤ 32) (fun t => 32 - (intOf t).toNat)
          case atStart => exact ⟨0, rfl, Nat.zero_le _⟩
          case round =>
            obtain ⟨j, rfl, hj⟩ := hrel
            by_cases hj32 : j < 32
            · have hcj := Hcell.out j hj32
              by_cases hjt : j < 0
              · omega
              · rw [if_neg hjt] at hcj
                go_wp2
                go_round
                case rel => exact ⟨j + 1, by go_num, by omega⟩
                case measure => simp [intOf]; omega
            · have hjn : ¬ (j : Int) < 32 := by omega
              go_wp2
              go_ret
              exact ⟨rfl, K9.out.below (Nat.le_refl _) (by simp)⟩
        · go_wp2
          go_loop [18] (fun t => ∃ j : Nat, t = .int .i64 j ∧ j ≤ 32) (fun t => 32 - (intOf t).toNat)
          case atStart => exact ⟨0, rfl, Nat.zero_le _⟩
          case round =>
            obtain ⟨j, rfl, hj⟩ := hrel
            by_cases hj32 : j < 32
            · have hcj := Hcell.out j hj32
              by_cases hjt : j < 0
              · omega
              · rw [if_neg hjt] at hcj
                go_wp2
                go_round
                case rel => exact ⟨j + 1, by go_num, by omega⟩
                case measure => simp [intOf]; omega
            · have hjn : ¬ (j : Int) < 32 := by omega
              go_wp2
              go_ret
              exact ⟨rfl, K9.out.below (Nat.le_refl _) (by simp)⟩
      · obtain rfl : a2 = false := by simpa using hl
        clear hl
        by_cases h0 : a1 < 0
        · obtain rfl : to = 0 := by rw [Hto.out]; simp; omega
          go_wp2
          go_loop [18] (fun t => ∃ j : Nat, t = .int .i64 j ∧ j ≤ 32) (fun t => 32 - (intOf t).toNat)
          case atStart => exact ⟨0, rfl, Nat.zero_le _⟩
          case round =>
            obtain ⟨j, rfl, hj⟩ := hrel
            by_cases hj32 : j < 32
            · have hcj := Hcell.out j hj32
              by_cases hjt : j < 0
              · omega
              · rw [if_neg hjt] at hcj
                go_wp2
                go_round
                case rel => exact ⟨j + 1, by go_num, by omega⟩
                case measure => simp [intOf]; omega
            · have hjn : ¬ (j : Int) < 32 := by omega
              go_wp2
              go_ret
              exact ⟨rfl, K9.out.below (Nat.le_refl _) (by simp)⟩
        · obtain ⟨t, rfl⟩ : ∃ t : Nat, a1 = t := ⟨a1.toNat, by omega⟩
          by_cases htk : k < t
          · obtain rfl : to = k := by rw [Hto.out]; simp; omega
            go_wp2
            go_loop [18] (fun t => ∃ j : Nat, t = .int .i64 j ∧ j ≤ 32) (fun t => 32 - (intOf t).toNat)
            case atStart => exact ⟨0, rfl, Nat.zero_le _⟩
            case round =>
              obtain ⟨j, rfl, hj⟩ := hrel
              by_cases hj32 : j < 32
              · have hcj := Hcell.out j hj32
                by_cases hjt : j < to
                · rw [if_pos hjt] at hcj
                  go_wp2
                  go_round
                  case rel => exact ⟨j + 1, by go_num, by omega⟩
                  case measure => simp [intOf]; omega
                · rw [if_neg hjt] at hcj
                  go_wp2
                  go_round
                  case rel => exact ⟨j + 1, by go_num, by omega⟩
                  case measure => simp [intOf]; omega
              · have hjn : ¬ (j : Int) < 32 := by omega
                go_wp2
                go_ret
                exact ⟨rfl, K9.out.below (Nat.le_refl _) (by simp)⟩
          · obtain rfl : to = t := by rw [Hto.out]; simp; omega
            go_wp2
            go_loop [18] (fun t => ∃ j : Nat, t = .int .i64 j ∧ j ≤ 32) (fun t => 32 - (intOf t).toNat)
            case atStart => exact ⟨0, rfl, Nat.zero_le _⟩
            case round =>
              obtain ⟨j, rfl, hj⟩ := hrel
              by_cases hj32 : j < 32
              · have hcj := Hcell.out j hj32
                by_cases hjt : j < to
                · rw [if_pos hjt] at hcj
                  go_wp2
                  go_round
                  case rel => exact ⟨j + 1, by go_num, by omega⟩
                  case measure => simp [intOf]; omega
                · rw [if_neg hjt] at hcj
                  go_wp2
                  go_round
                  case rel => exact ⟨j + 1, by go_num, by omega⟩
                  case measure => simp [intOf]; omega
              · have hjn : ¬ (j : Int) < 32 := by omega
                go_wp2
                go_ret
                exact ⟨rfl, K9.out.below (Nat.le_refl _) (by simp)⟩


set_option maxRecDepth 100000 in
theorem lifted (os : Os) (started : os.Started) (H : Type) (enc : TypeId × Value → H) :
    ReturnsInHanded {} Try.checked os 6 .any (Rows.blockTornSpec.pre6 enc Try.prog Try.f6 Rows.blockTornRow.domain false) (Rows.blockTornSpec.post enc Try.prog Try.f6 false true false false) := by
  refine returnsInHanded_of_change (C := Try.checked) own started (by kernel_rfl) Try.func6
    (ChangeSpec.witness6 (enc := enc) (C := Try.checked) false ⟨#[], #[.int .u8 0, .int .i64 0, .bool false, .int .u8 0], []⟩ 8 (by kernel_rfl) (by kernel_rfl) (by kernel_rfl) (by kernel_rfl)) ?_
  intro W base args ds gs before hval0 hW hcnd _
  have hval : ∀ (j : Nat) t v, Try.f6.params[j]? = some t → args[j]? = some v → Value.okWide Try.prog W .any base t v := hval0
  have hW' := hW
  obtain ⟨p, q, hA0, hV, rfl, hfz, hnd⟩ := hW
  have hA : DataW.TrodAll enc Try.prog W 0 (fun _ => true) true Try.f6.params.toList args.toList ds p := hA0
  rw [Try.params6] at hA hval
  obtain ⟨v0, vs0, d0, ds0, p0, q0, hargs, rfl, rfl, h0, r0⟩ := trodAll_cons hA
  obtain ⟨v1, vs1, d1, ds1, p1, q1, rfl, rfl, rfl, h1, r1⟩ := trodAll_cons r0
  obtain ⟨v2, vs2, d2, ds2, p2, q2, rfl, rfl, rfl, h2, r2⟩ := trodAll_cons r1
  obtain ⟨v3, vs3, d3, ds3, p3, q3, rfl, rfl, rfl, h3, r3⟩ := trodAll_cons r2
  obtain ⟨rfl, rfl, rfl⟩ := trodAll_nil r3
  obtain rfl : args = #[v0, v1, v2, v3] := by cases args; simp_all
  obtain ⟨rfl, rfl⟩ := trodVars_none hV
  obtain ⟨a0, rfl, rfl, rfl, w0⟩ := open_int Try.underlying5 (hval 0 5 v0 rfl rfl) h0
  obtain ⟨a1, rfl, rfl, rfl, w1⟩ := open_int Try.underlying3 (hval 1 3 v1 rfl rfl) h1
  obtain ⟨a2, rfl, rfl, rfl⟩ := open_bool Try.underlying4 (hval 2 4 v2 rfl rfl) h2
  obtain ⟨a3, rfl, rfl, rfl, w3⟩ := open_int Try.underlying5 (hval 3 5 v3 rfl rfl) h3
  clear hA0 hval0
  simp only [List.append_nil] at hW'
  refine (walk a0 a1 a2 a3 w0 w1 w3 W).mono fun e W' ⟨he, bel⟩ => ?_
  subst he
  exact ⟨_, rfl, _, _, _, [], _, [], hW', trodAll_mk1 (shut_bool Try.underlying4 _), (trodAll_cons_mk (shut_int Try.underlying5 w0) (trodAll_cons_mk (shut_int Try.underlying3 w1) (trodAll_cons_mk (shut_bool Try.underlying4 a2) (trodAll_cons_mk (shut_int Try.underlying5 w3) trodAll_mk0)))), rfl, bel.frame _, fun h => by cases h⟩

theorem over : Rows.blockTornRow.holds Try.pinned (OpenSpec.ofChange Rows.blockTornSpec) :=
  OpenClaim.holds_of_wide 6 Try.f6 rfl rfl rfl rfl rfl rfl rfl ⟨rfl, rfl, rfl, rfl, rfl⟩ rfl rfl rfl rfl rfl (by kernel_rfl) Try.func6 (by kernel_rfl)
    (of_decide_eq_true (by kernel_rfl)) (by unfold Func.isWrapper; first | (rw [if_pos (by decide +kernel)]; kernel_rfl) | (rw [if_neg (by decide +kernel)]; exact ⟨rfl, rfl⟩))
    (fun os started H enc _ => lifted os started H enc)

theorem proved : Rows.BlockTornSaid :=
  over
end Go.Proofs.Ytoamdpbnojedpaa.blockTorn

namespace Go.Proofs.Ytoamdpbnojedpaa
theorem blockTorn_holds : Rows.BlockTornSaid := blockTorn.proved
#print axioms blockTorn_holds
end Go.Proofs.Ytoamdpbnojedpaa
