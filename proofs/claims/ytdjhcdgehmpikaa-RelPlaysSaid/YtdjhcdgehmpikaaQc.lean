/-
  What a statement has done: Ops.
-/
import Derived.Test.YtdjhcdgehmpikaaQb
namespace Go.Proofs.Ytdjhcdgehmpikaa
open Go.RowKit Go.Maps Go.Sort Go.Shelf

theorem Try.infoOp : (Try.prog.info? 80).map (fun i => (i.zero, i.size, i.bytes)) = some (some (.agg #[.bool false, .int .i64 0, .string ByteArray.empty]), 3, 32) := by kernel_rfl

def goneL (R : List (Int × ByteArray)) : List Opn := R.map fun r => ⟨true, r.1, r.2⟩
/-- What a statement has done. -/
def opsL (kind : Nat) (key : Int) (txt : ByteArray) (R : List (Int × ByteArray)) : List Opn :=
  if kind = 1 ∨ kind = 2 then [⟨false, key, txt⟩] else if kind = 3 then [⟨true, key, txt⟩] else if kind = 4 then goneL R else []

theorem ocl_append (l m : List Opn) : ocl (l ++ m) = ocl l ++ ocl m := by simp [ocl]

variable {w : World}

set_option maxHeartbeats 1000000 in
set_option maxRecDepth 100000 in
theorem gone_any {base : Nat} (sv : Value) (R : List (Int × ByteArray)) (ho : w.ownsRow base 55 2 sv R.length (rcl R)) (hlen : R.length ≤ 1000000) :
    Calls Try.prog 50 #[sv] w fun e w' => ∃ v', e = .returned v' ∧ w'.ownsRow w.heap.size 80 3 v' R.length (ocl (goneL R)) ∧ Kept w w' [] := by
  obtain ⟨i0, hi0, hz0, hz1, hzb⟩ := info_parts Try.infoOp
  have I := Lib.hid (And.intro hi0 (And.intro hz0 (And.intro hz1 hzb)))
  clear hi0 hz0 hz1 hzb
  rcases id ho.2 with ⟨rfl, h0⟩ | ⟨g, cap, cur, rfl, _, _, hnc, hcm, _, _⟩
  · have hR : R = [] := List.eq_nil_of_length_eq_zero (by omega)
    subst hR
    clear ho h0
    go_enter Try.func50, Try.ntmps50
    go_wp2
    go_loop [3, 8] (fun l t => l = .slice none 0 0 ∧ t = .int .i64 0) (fun _ _ => 0)
    case atStart => exact ⟨rfl, rfl⟩
    case round =>
      obtain ⟨rfl, rfl⟩ := hrel
      go_wp2
      go_ret
      exact ⟨.slice none 0 0, rfl, World.ownsRow_nil _ _ _ _, Kept.refl w []⟩
  · obtain ⟨n, hn⟩ : ∃ n, R.length = n := ⟨_, rfl⟩
    have HN := Lib.hid hn
    have HO := Lib.hid ho
    rw [hn] at hnc hlen ⊢
    clear ho hcm hnc hn
    go_enter Try.func50, Try.ntmps50
    go_wp2
    go_loopw [3, 5, 8] (fun l _ t wr => ∃ k : Nat, t = .int .i64 k ∧ k ≤ n ∧ wr.ownsRow w.heap.size 80 3 l k (ocl (goneL (R.take k))) ∧ Kept w wr []) (fun _ _ t _ => n - (intOf t).toNat)
    case atStart => exact ⟨0, rfl, Nat.zero_le _, World.ownsRow_nil _ _ _ _, Kept.refl w []⟩
    case round =>
      obtain ⟨k, rfl, hk, ho, hkw⟩ := hrel
      have O := Lib.hid ho; have K := Lib.hid hkw
      obtain ⟨al, cl, hal⟩ := ownsRow_shape ho
      clear ho hkw
      subst hal
      by_cases hlt : k < n
      · obtain ⟨⟨rk, rt⟩, hr⟩ : ∃ r, R[k]? = some r := ⟨_, List.getElem?_eq_getElem (by have := HN.out; omega)⟩
        obtain ⟨c0, c1⟩ := rcl_cells (ownsRow_fr HO.out (Fr.ofKept K.out 0 []) (by simp)) hr
        have x1 : (k : Int) < (n : Int) := by omega
        have HR := Lib.hid hr
        obtain ⟨wA, hwA⟩ : ∃ wA, wA = wr.alloc (.cells #[.int .i64 rk, .string rt] 55) := ⟨_, rfl⟩
        obtain ⟨wB, hwB⟩ : ∃ wB, wB = wA.alloc (.cells #[.bool true, .int .i64 rk, .string rt] 80) := ⟨_, rfl⟩
        have HwA := Lib.hid hwA; have HwB := Lib.hid hwB
        have kA : Kept wr wA [] := by rw [hwA]; exact (Kept.refl wr []).alloc _
        have kB : Kept wr wB [] := by rw [hwB]; exact kA.alloc _
        have hb : wB.heap[wA.heap.size]? = some (.cells #[.bool true, .int .i64 rk, .string rt] 80 (0, 0)) := by rw [hwB]; exact heap_alloc_new wA _
        have hz : wA.heap.size = wr.heap.size + 1 := by rw [hwA]; simp
        rw [hz] at hb
        have sB : Src Try.prog 3 65 (.slice (some ⟨wr.heap.size + 1, 0, none⟩) 1 1) 1 [.bool true, .int .i64 rk, .string rt] wB := Src.ofSlice wB Try.underlying65 ⟨wr.heap.size + 1, 0, none⟩ 1 1 _ rfl (fun j u hu => by
          rw [Addr.add_lit, cell_of_row wB _ _ _ _ _ hb, Nat.zero_add]
          simpa using hu) (by intro u hu; simp at hu; rcases hu with rfl | rfl | rfl <;> rfl)
        have SB := Lib.hid sB; have KB := Lib.hid kB
        have oB := Lib.hid (ownsRow_fr O.out (Fr.ofKept kB 0 []) (by simp))
        have hbB : w.heap.size ≤ wB.heap.size := Nat.le_trans K.out.size kB.size
        clear hr hwA hwB kA kB hb sB hz
        go_wp2_with (at_builtin; refine wpList_append_all _ rfl (.tmp 12) (.tmp 15) 65 65 rfl w.heap.size 80 i0 _ 3 32 Try.underlying65 I.out.1 I.out.2.1 I.out.2.2.1 I.out.2.2.2 rfl (.slice al k cl) k (ocl (goneL (R.take k))) rfl ?hown _ 1 [.bool true, .int .i64 rk, .string rt] rfl ?hsrc ?b1 ?b2 ?base ?next)
        case hown => rw [← HwA.out, ← HwB.out]; exact oB.out
        case hsrc => rw [← HwA.out, ← HwB.out]; exact SB.out
        case b1 => unfold maxLen; omega
        case b2 => omega
        case base => rw [← HwA.out, ← HwB.out]; exact hbB
        case next =>
          intro v5 w5 ho5 _ hg5 _
          rw [← HwA.out, ← HwB.out] at hg5
          obtain ⟨a5, c5, hs5⟩ := ownsRow_shape ho5
          have e1 : ocl (goneL (R.take k)) ++ [.bool true, .int .i64 rk, .string rt] = ocl (goneL (R.take (k + 1))) := by
            rw [List.take_add_one, HR.out, goneL, goneL, List.map_append, ocl_append]; rfl
          rw [e1] at ho5
          have O5 := Lib.hid ho5
          have K5 := Lib.hid ((K.out.trans KB.out (by simp)).grown hg5 (fun j hj => .inr ((World.ownsRow.lt O.out j hj).1)))
          clear ho5 hg5 e1 c0 c1
          subst hs5
          go_wp2
          go_roundw
          case rel => exact ⟨k + 1, by go_num, by omega, O5.out, K5.out⟩
          case measure => simp [intOf]; omega
      · have x1 : ¬ (k : Int) < (n : Int) := by omega
        have R1 : Hid (R.take k = R ∧ k = n) := Lib.hid (by
          have := HN.out
          exact ⟨by rw [List.take_of_length_le (by omega)], by omega⟩)
        go_wp2
        go_ret
        refine ⟨.slice al k cl, rfl, ?_, K.out⟩
        have := O.out
        rw [R1.out.1] at this
        rw [← R1.out.2]
        exact this

theorem oneOp {w : World} (o : Obj) (gone : Bool) (key : Int) (txt : ByteArray) : ((w.alloc o).alloc (.cells #[.bool gone, .int .i64 key, .string txt] 80)).ownsRow w.heap.size 80 3 (.slice (some ⟨w.heap.size + 1, 0, none⟩) 1 1) 1 (ocl [⟨gone, key, txt⟩]) := by
  have hz : (w.alloc o).heap.size = w.heap.size + 1 := by simp
  have h := heap_alloc_new (w.alloc o) (.cells #[.bool gone, .int .i64 key, .string txt] 80)
  rw [hz] at h
  exact ⟨rfl, .inr ⟨w.heap.size + 1, 1, #[.bool gone, .int .i64 key, .string txt], rfl, by omega, h, Nat.le_refl _, by decide, rfl, rfl⟩⟩

set_option maxHeartbeats 1000000 in
set_option maxRecDepth 100000 in
theorem ops_any {base : Nat} (kind : Nat) (tb key : Int) (txt : ByteArray) (a : Option Addr) (n c : Nat) (R : List (Int × ByteArray)) (ho : w.ownsRow base 55 2 (.slice a n c) R.length (rcl R)) (hlen : R.length ≤ 1000000) :
    Calls Try.prog 25 #[.agg #[.int .u8 kind, .int .i64 tb, .int .i64 key, .string txt], .slice a n c] w fun e w' => ∃ v', e = .returned v' ∧ w'.ownsRow w.heap.size 80 3 v' (opsL kind key txt R).length (ocl (opsL kind key txt R)) ∧ Kept w w' [] := by
  by_cases e4 : kind = 4
  · subst e4
    have E : Hid (opsL 4 key txt R = goneL R) := Lib.hid (by simp [opsL])
    have k1 : Kept w (w.alloc (.cells #[.int .u8 4, .int .i64 tb, .int .i64 key, .string txt] 58)) [] := (Kept.refl w []).alloc _
    have K1 := Lib.hid k1
    have CG := Lib.hid (gone_any (.slice a n c) R (ownsRow_fr ho (Fr.ofKept k1 0 []) (by simp)) hlen)
    clear ho k1
    go_enter Try.func25, Try.ntmps25
    go_wp2_with fail
    refine CG.out.mono ?_
    rintro e w2 ⟨v2, rfl, o2, k2⟩
    have O2 := Lib.hid o2; have K2 := Lib.hid k2
    clear o2 k2
    go_wp2
    go_ret
    rw [E.out]
    have e5 : (goneL R).length = R.length := by simp [goneL]
    rw [e5]
    exact ⟨v2, rfl, ownsRow_low O2.out K1.out.size, K1.out.trans K2.out (by simp)⟩
  clear ho hlen
  by_cases e1 : kind = 1
  · subst e1
    have E : Hid (opsL 1 key txt R = [⟨false, key, txt⟩]) := Lib.hid (by simp [opsL])
    go_enter Try.func25, Try.ntmps25
    go_wp2
    go_ret
    rw [E.out]
    exact ⟨_, rfl, oneOp _ false key txt, ((Kept.refl w []).alloc _).alloc _⟩
  · by_cases e2 : kind = 2
    · subst e2
      have E : Hid (opsL 2 key txt R = [⟨false, key, txt⟩]) := Lib.hid (by simp [opsL])
      go_enter Try.func25, Try.ntmps25
      go_wp2
      go_ret
      rw [E.out]
      exact ⟨_, rfl, oneOp _ false key txt, ((Kept.refl w []).alloc _).alloc _⟩
    · by_cases e3 : kind = 3
      · subst e3
        have E : Hid (opsL 3 key txt R = [⟨true, key, txt⟩]) := Lib.hid (by simp [opsL])
        go_enter Try.func25, Try.ntmps25
        go_wp2
        go_ret
        rw [E.out]
        exact ⟨_, rfl, oneOp _ true key txt, ((Kept.refl w []).alloc _).alloc _⟩
      · have E : Hid (opsL kind key txt R = []) := Lib.hid (by simp [opsL, e1, e2, e3, e4])
        have x1 : ¬ (kind : Int) = 1 := by omega
        have x2 : ¬ (kind : Int) = 2 := by omega
        have x3 : ¬ (kind : Int) = 3 := by omega
        have x4 : ¬ (kind : Int) = 4 := by omega
        clear e1 e2 e3 e4
        go_enter Try.func25, Try.ntmps25
        go_wp2
        go_ret
        rw [E.out]
        exact ⟨.slice none 0 0, rfl, World.ownsRow_nil _ _ _ _, (Kept.refl w []).alloc _⟩

/-- The document's example. -/
theorem row_any (w : World) : Calls Try.prog 10 #[] w fun e w' => e = .returned (.bool true) ∧ Kept w w' [] := by
  have c1 : Calls Try.prog 25 #[.agg #[.int .u8 1, .int .i64 0, .int .i64 3, .string ⟨#[120]⟩], .slice none 0 0] w fun e w' => ∃ v', e = .returned v' ∧ w'.ownsRow w.heap.size 80 3 v' 1 (ocl [⟨false, 3, ⟨#[120]⟩⟩]) ∧ Kept w w' [] :=
    ops_any (base := 0) 1 0 3 ⟨#[120]⟩ none 0 0 [] (World.ownsRow_nil _ _ _ _) (by decide)
  go_enter Try.func10, Try.ntmps10
  go_wp2_with fail
  refine c1.mono ?_
  rintro e w1 ⟨v1, rfl, o1, k1⟩
  obtain ⟨a1, d1, rfl⟩ := ownsRow_shape o1
  obtain ⟨g, rfl, hg, _, hgd, h0, h1, h2⟩ := three_head o1
  have K1 := Lib.hid k1
  have T1 := Lib.hid (And.intro h0 h1)
  clear c1 o1 k1 h0 h1 h2 hg
  go_wp2_with fail
  refine (mnew_any w1).mono ?_
  rintro e w2 ⟨p, b, v2, rfl, hm, hk⟩
  have M2 := Lib.hid hm; have K2 := Lib.hid (K1.out.trans hk (by simp)); have Q2 := Lib.hid hk
  clear hm hk
  go_wp2_with fail
  refine (relnew_any M2.out 2).mono ?_
  rintro e w3 ⟨r, O, rfl, s, hk, _⟩
  have S3 := Lib.hid s; have K3 := Lib.hid (K2.out.trans hk (by simp))
  have h0 := (Q2.out.trans hk (by simp)).cell (p := ⟨g, 0, none⟩) (by simp) T1.out.1
  have h1 := (Q2.out.trans hk (by simp)).cell (p := ⟨g, 1, none⟩) (by simp) T1.out.2
  have CT : Hid (∀ V, Kept w3 V [] → Calls Try.prog 15 #[.pointer (some ⟨r, 0, none⟩)] V fun e w' => e = .returned (.int .i64 2) ∧ V = w') := Lib.hid (fun V hV => by
    obtain ⟨b, v, sv, L, a, c, _, e⟩ := S3.out.keep hV
    have hl : L.length = 2 := by
      have := congrArg List.length e
      simpa [cl] using this.symm
    have := tables_any c
    rw [hl] at this
    exact this)
  clear s hk
  go_wp2_with (go_at_call 15; refine (CT.out _ ?_).mono ?_; exact Kept.refl w3 []; rintro e w' ⟨rfl, rfl⟩)
  go_ret
  exact ⟨rfl, K3.out⟩
end Go.Proofs.Ytdjhcdgehmpikaa
