/-
  The contract of wal's records: as many frames as there are.
-/
import Derived.Test.YtfhdblbiamdplaaWc
namespace Go.Proofs.Ytfhdblbiamdplaa
open Go.RowKit

theorem first_len {b : List UInt8} (h : firstB b ≠ []) : 6 + (firstB b).length ≤ b.length := by
  unfold firstB at h ⊢
  by_cases h1 : b.length < 6
  · rw [if_pos h1] at h; exact absurd rfl h
  · rw [if_neg h1] at h ⊢
    by_cases h2 : 4000 < firstN b ∨ b.length < firstN b + 6
    · rw [if_pos h2] at h; exact absurd rfl h
    · rw [if_neg h2] at h ⊢
      split
      · simp; omega
      · simp; omega

/-- The records of the frames with which these bytes begin. -/
def scanF : Nat → List UInt8 → List (List UInt8)
  | 0, _ => []
  | f + 1, b => if firstB b = [] then [] else firstB b :: scanF f (b.drop (6 + (firstB b).length))
def scan (b : List UInt8) : List (List UInt8) := scanF (b.length + 1) b

theorem scanF_eq : ∀ (f g : Nat) (b : List UInt8), b.length < f → b.length < g → scanF f b = scanF g b := by
  intro f
  induction f with
  | zero => intro g b h; omega
  | succ f ih =>
    intro g b hf hg
    cases g with
    | zero => omega
    | succ g =>
      rw [scanF, scanF]
      split
      · rfl
      · rename_i h
        have := first_len h
        rw [ih g _ (by simp; omega) (by simp; omega)]

theorem scan_nil {b : List UInt8} (h : firstB b = []) : scan b = [] := by rw [scan, scanF, if_pos h]
theorem scan_cons {b : List UInt8} (h : firstB b ≠ []) : scan b = firstB b :: scan (b.drop (6 + (firstB b).length)) := by
  have := first_len h
  rw [scan, scanF, if_neg h, scan, scanF_eq _ _ _ (by simp; omega) (Nat.lt_succ_self _)]

/-- How many bytes the frames of these records have. -/
def szs (l : List (List UInt8)) : Nat := (l.map fun p => 6 + p.length).sum
theorem szs_snoc (l : List (List UInt8)) (p : List UInt8) : szs (l ++ [p]) = szs l + (6 + p.length) := by simp [szs]

theorem len_szs : ∀ (l : List (List UInt8)), l.length ≤ szs l
  | [] => Nat.zero_le _
  | x :: r => by have := len_szs r; simp only [szs, List.map_cons, List.sum_cons, List.length_cons] at this ⊢; omega

theorem szs_scan : ∀ (n : Nat) (b : List UInt8), b.length ≤ n → szs (scan b) ≤ b.length := by
  intro n
  induction n with
  | zero =>
    intro b h
    obtain rfl : b = [] := List.eq_nil_of_length_eq_zero (by omega)
    have : scan [] = [] := scan_nil (by decide)
    rw [this]; simp [szs]
  | succ n ih =>
    intro b h
    by_cases hf : firstB b = []
    · rw [scan_nil hf]; simp [szs]
    · have h1 := first_len hf
      have h2 := ih (b.drop (6 + (firstB b).length)) (by simp; omega)
      rw [scan_cons hf]
      simp only [szs, List.map_cons, List.sum_cons] at h2 ⊢
      simp only [List.length_drop] at h2
      omega

/-- Rows of bytes, in a slice of the call's own, from block B on; what they are stands from B on, too, below C or in blocks of bytes. -/
def RowsR (w : World) (B C : Nat) (v : Value) (L : List (List UInt8)) : Prop :=
  ∃ xs, w.ownsRow B 36 1 v L.length xs ∧ xs.length = L.length ∧ ∀ (i : Nat) (h : i < xs.length) (h' : i < L.length), Rb w C 5 xs[i] L[i] ∧ ∀ b, xs[i].ownBlock = some b → B ≤ b

theorem RowsR.nil (w : World) (B C : Nat) : RowsR w B C (.slice none 0 0) [] := ⟨[], World.ownsRow_nil _ _ _ _, rfl, fun i h => by simp at h⟩

theorem RowsR.frame {w w' : World} {B C C' : Nat} {v : Value} {L : List (List UInt8)} {ts : List TypeId} (h : RowsR w B C v L) (hf : Fr C' ts w w') (hC : C ≤ C') (h1 : 36 ∉ ts) (h2 : 5 ∉ ts) : RowsR w' B C v L := by
  obtain ⟨xs, ho, hl, hr⟩ := h
  exact ⟨xs, ownsRow_frame ho hf h1, hl, fun i h h' => ⟨(hr i h h').1.frame hf hC h2, (hr i h h').2⟩⟩

theorem Rb.kept {w w' : World} {C : Nat} {e : TypeId} {v : Value} {l : List UInt8} {bs : List Nat} (h : Rb w C e v l) (hk : Kept w w' bs) (hb : ∀ b, v.ownBlock = some b → b ∉ bs) : Rb w' C e v l := by
  obtain ⟨a, c, rfl, hc, ha, hl⟩ := h
  refine ⟨a, c, rfl, hc, ha, fun hne => ?_⟩
  obtain ⟨b, o, rfl, hbl, hcell⟩ := hl hne
  have hn : b ∉ bs := hb b rfl
  refine ⟨b, o, rfl, hbl.imp id (fun ⟨cs, fz, h⟩ => ⟨cs, fz, hk.heap hn h⟩), fun i hi => hk.cell (p := ⟨b, o + i, none⟩) hn (hcell i hi)⟩

/-- Another block, below them, is written. -/
theorem RowsR.kept {w w' : World} {B C g : Nat} {v : Value} {L : List (List UInt8)} (h : RowsR w B C v L) (hk : Kept w w' [g]) (hg : g < B) : RowsR w' B C v L := by
  obtain ⟨xs, ho, hl, hr⟩ := h
  refine ⟨xs, ownsRow_kept ho hk (fun b hb => ?_), hl, fun i h h' => ⟨(hr i h h').1.kept hk (fun b hb => ?_), (hr i h h').2⟩⟩
  · have := (World.ownsRow.lt ho b hb).1
    simp; omega
  · have := (hr i h h').2 b hb
    simp; omega

theorem Try.infoL : (Try.prog.info? 36).map (fun i => (i.zero, i.size, i.bytes)) = some (some (.slice none 0 0), 1, 24) := by kernel_rfl

/-- One row more. -/
theorem RowsR.snoc {w' : World} {B C : Nat} {v' x : Value} {L : List (List UInt8)} {l : List UInt8} {xs : List Value} (ho : w'.ownsRow B 36 1 v' (L.length + 1) (xs ++ [x]))
    (hr : ∀ (i : Nat) (h : i < xs.length) (h' : i < L.length), Rb w' C 5 xs[i] L[i] ∧ ∀ b, xs[i].ownBlock = some b → B ≤ b) (hl : xs.length = L.length) (hrx : Rb w' C 5 x l) (hbx : ∀ b, x.ownBlock = some b → B ≤ b) : RowsR w' B C v' (L ++ [l]) := by
  refine ⟨xs ++ [x], by rw [List.length_append]; exact ho, by simp [hl], fun i h h' => ?_⟩
  by_cases hi : i < xs.length
  · rw [List.getElem_append_left hi, List.getElem_append_left (by omega)]
    exact hr i hi (by omega)
  · obtain rfl : i = xs.length := by simp at h; omega
    simp [hl]
    exact ⟨hrx, hbx⟩

set_option maxHeartbeats 400000 in
set_option maxRecDepth 100000 in
theorem clone_any (v : Value) (l : List UInt8) (w : World) (h : Rd w v l) (hl : l.length ≤ 1099511627796) :
    Calls Try.prog 71 #[v] w fun e w' => ∃ v', e = .returned v' ∧ Own w' w.heap.size 5 v' l ∧ Kept w w' [] := by
  obtain ⟨i0, hi, hz0, hz1, hz2⟩ := info_parts Try.infoB
  obtain ⟨a, c, rfl, hc, ha, hcell⟩ := id h
  have H := Lib.hid h; clear h hcell
  have q22 : ∀ (w : World) (a : Option Addr) (n c n' c' : Nat), (binOp .eql 36 (.slice a n c) (.slice none n' c')).run Try.prog w = .ok (.bool a.isNone) w := fun w a n c n' c' => Lib.run_eql_slice_nil w _ _ a n c n' c' Try.underlying36
  cases a with
  | none =>
    obtain rfl := ha rfl
    obtain rfl : l = [] := List.eq_nil_of_length_eq_zero (by omega)
    clear ha
    go_enter Try.func71, Try.ntmps71
    go_wp2
    go_ret
    exact ⟨_, rfl, Own.nil _ _ _, Kept.refl _ _⟩
  | some x =>
    clear ha
    go_enter Try.func71, Try.ntmps71
    go_wp2_with (at_builtin; refine wpList_append_src _ rfl (.tmp 5) (.tmp 6) 36 36 rfl w.heap.size 5 i0 (.int .u8 0) 1 1 Try.underlying36 hi hz0 hz1 hz2 rfl (.slice (some ⟨w.heap.size, 0, none⟩) 0 0) 0 [] rfl ?hown (.slice (some x) l.length c) l.length (bc l) rfl ?src ?b1 ?b2 ?base ?next)
    case hown => exact World.ownsRow_made w #[] 0 (Nat.le_refl _) (Nat.zero_le _) (by simp)
    case src => exact (H.out.kept ((Kept.refl w []).alloc _) (by simp)).src Try.underlying36
    case b1 => unfold maxLen; omega
    case b2 => omega
    case base => simp
    case next =>
      intro v2 w2 hown hgrow _ _
      have ho : Own w2 w.heap.size 5 v2 l := by unfold Own; simpa using hown
      have hk : Kept w w2 [] := ((Kept.refl w []).alloc _).grown hgrow (fun k hk => .inr (by simp [Value.ownBlock] at hk; omega))
      have Ho := Lib.hid ho; have Hk := Lib.hid hk
      clear ho hk hown hgrow
      go_wp2
      go_ret
      exact ⟨_, rfl, Ho.out, Hk.out⟩

theorem drop_end {b : List UInt8} {n : Nat} (h : b.length ≤ n) : b.drop n = [] := List.drop_of_length_le h

/-- The bytes from some place on, as the program makes them. -/
theorem Rd.from_ {w : World} {bb bo c : Nat} {b : List UInt8} (h : Rd w (.slice (some ⟨bb, bo, none⟩) b.length c) b) (s : Nat) (hs : s ≤ b.length) (hc : b.length ≤ c) :
    Rd w (if c = s then .slice (some ⟨bb, bo, none⟩) (b.length - s) 0 else .slice (some ⟨bb, bo + s, none⟩) (b.length - s) (c - s)) (b.drop s) := by
  by_cases h1 : c = s
  · rw [if_pos h1, drop_end (by omega)]
    have e : b.length - s = 0 := by omega
    rw [e]
    exact ⟨_, 0, rfl, Nat.le_refl _, by simp, fun h => absurd rfl h⟩
  · rw [if_neg h1]
    have := h.sub s (b.length - s) (c - s) (by omega) (by omega)
    rwa [List.take_of_length_le (by simp)] at this

theorem ret2i {v : Value} {a b : Int} (h : a = b) : Ending.returned (.tuple #[v, .int .i64 a]) = .returned (.tuple #[v, .int .i64 b]) := by rw [h]

set_option maxHeartbeats 2000000 in
set_option maxRecDepth 100000 in
theorem records_any (v : Value) (b : List UInt8) (w : World) (h : Rd w v b) (hb : b.length ≤ 1000000) :
    Calls Try.prog 55 #[v] w fun e w' => ∃ v', e = .returned (.tuple #[v', .int .i64 (szs (scan b) : Nat)]) ∧ RowsR w' w.heap.size 0 v' (scan b) ∧ Kept w w' [] := by
  have H := Lib.hid h
  obtain ⟨a, c, rfl, hc, han, hl⟩ := h
  obtain ⟨i0, hi0, hz0, hz1, hzb⟩ := info_parts Try.infoL
  by_cases hbne : b = []
  · subst hbne
    have F0 : firstB [] = [] := by decide
    have S0 := Lib.hid (show scan [] = [] from scan_nil F0)
    clear hl
    go_enter Try.func55, Try.ntmps55
    go_wp2_with fail
    refine (first_any _ [] w H.out hb).mono ?_
    rintro e w1 ⟨v1, rfl, hr, hk⟩
    rw [F0] at hr
    obtain ⟨a1, c1, hv1, _⟩ := hr
    rw [List.length_nil] at hv1
    subst hv1
    have K1 := Lib.hid hk
    clear hk
    go_wp2
    go_loopw [4, 5, 6] (fun t4 t5 t6 wr => t4 = .slice none 0 0 ∧ t5 = .int .i64 0 ∧ t6 = .slice a1 0 c1 ∧ wr = w1) (fun _ _ _ _ => 0)
    case atStart => exact ⟨rfl, rfl, rfl, rfl⟩
    case round =>
      obtain ⟨rfl, rfl, rfl, rfl⟩ := hrel
      go_wp2
      go_ret2
      exact ⟨_, ret2i (by rw [S0.out]; rfl), by rw [S0.out]; exact RowsR.nil _ _ _, K1.out⟩
  obtain ⟨ab, ao, rfl, _⟩ := hl hbne
  go_enter Try.func55, Try.ntmps55
  go_wp2_with fail
  refine (first_any _ b w H.out hb).mono ?_
  rintro e w1 ⟨v1, rfl, hr, hk⟩
  have R1 := Lib.hid hr; have K1 := Lib.hid hk
  obtain ⟨a1, n1, c1, hv1⟩ := hr.shape3
  subst hv1
  clear hr hk hl hbne han
  go_wp2
  go_loopw [4, 5, 6] (fun t4 t5 t6 wr => ∃ (s n6 c6 n4 c4 : Nat) (acc : List (List UInt8)) (a4 a6 : Option Addr), t4 = .slice a4 n4 c4 ∧ t5 = .int .i64 s ∧ t6 = .slice a6 n6 c6 ∧ s = szs acc ∧ s ≤ b.length ∧ scan b = acc ++ scan (b.drop s) ∧ RowsR wr w.heap.size 0 (.slice a4 n4 c4) acc ∧ Rd wr (.slice a6 n6 c6) (firstB (b.drop s)) ∧ Kept w wr []) (fun _ t5 _ _ => b.length - (intOf t5).toNat)
  case atStart => exact ⟨0, _, _, 0, 0, [], none, _, rfl, rfl, rfl, rfl, Nat.zero_le _, by simp, RowsR.nil _ _ _, by rw [List.drop_zero]; exact R1.out, K1.out⟩
  case round =>
    obtain ⟨s, n6, c6, n4, c4, acc, a4, a6, rfl, rfl, rfl, hs, hsb, hsc, hrow, hrd, hk⟩ := hrel
    have Hs := Lib.hid hs; have Sc := Lib.hid hsc; have Row := Lib.hid hrow; have Rr := Lib.hid hrd; have K := Lib.hid hk
    have hn6 : n6 = (firstB (b.drop s)).length := by
      obtain ⟨_, _, e, _⟩ := hrd
      simp only [Value.slice.injEq] at e
      exact e.2.1
    clear hs hsc hrow hrd hk
    have hzr := K.out.size
    by_cases hp : firstB (b.drop s) = []
    · have h0 : n6 = 0 := by rw [hn6, hp]; rfl
      have E := Lib.hid (show scan b = acc by rw [Sc.out, scan_nil hp, List.append_nil])
      subst h0
      clear hn6 hp
      go_wp2
      go_ret2
      exact ⟨_, ret2i (by rw [E.out, ← Hs.out]), by rw [E.out]; exact Row.out, K.out⟩
    · have hl6 := first_len hp
      have hpos : 0 < n6 := by rw [hn6]; exact List.length_pos_iff.2 hp
      have hdl : (b.drop s).length = b.length - s := by simp
      obtain ⟨u, hu⟩ : ∃ u, u = s + (6 + n6) := ⟨_, rfl⟩
      have S1 := Lib.hid (show scan b = (acc ++ [firstB (b.drop s)]) ++ scan (b.drop u) by rw [hu, Sc.out, scan_cons hp, hn6, List.drop_drop, List.append_assoc]; rfl)
      have S2 := Lib.hid (show u = szs (acc ++ [firstB (b.drop s)]) by rw [szs_snoc, hu, hn6]; have := Hs.out; omega)
      have hs6 : u ≤ b.length := by omega
      have Hu := Lib.hid hu; have Hs6 := Lib.hid hs6
      have hacc : acc.length ≤ 1000000 := by
        have := len_szs acc
        have := Hs.out
        omega
      have hn32 : (0 : Int) < (n6 : Int) := by omega
      obtain ⟨q, hq⟩ : ∃ q, q = firstB (b.drop s) := ⟨_, rfl⟩
      rw [← hq] at S1 S2 Rr hn6
      have Hn6 := Lib.hid hn6
      clear hp hl6 hdl hq hn6 hu hs6
      go_wp2_with fail
      refine (clone_any _ q wr Rr.out (by have := Hn6.out; have := Hu.out; have := Hs6.out; omega)).mono ?_
      rintro e w2 ⟨v2, rfl, ho, hk⟩
      have K2 := Lib.hid (K.out.trans hk (by simp)); have O2 := Lib.hid ho
      obtain ⟨a2, n2, c2, hv2⟩ := Own.shape3 ho
      subst hv2
      obtain ⟨xs, hox, hxl, hxr⟩ := Row.out.frame (Fr.ofKept hk w.heap.size []) (Nat.zero_le _) (by simp) (by simp)
      have X2 := Lib.hid hox; have XR := Lib.hid hxr; have hz2 := hk.size
      obtain ⟨_, _, e4⟩ := ownsRow_shape hox
      simp only [Value.slice.injEq] at e4
      obtain ⟨rfl, rfl, rfl⟩ := e4
      clear ho hk hox hxr
      go_wp2_with (at_builtin; refine wpList_append_fr _ rfl (.tmp 16) (.tmp 19) 29 29 rfl w.heap.size 36 i0 _ 1 24 Try.underlying29 hi0 hz0 hz1 hzb rfl _ acc.length xs rfl ?hown _ 1 [.slice a2 n2 c2] rfl (src_one Try.underlying29 w2 _ rfl _) ?b1 ?b2 ?base ?next)
      case hown => exact World.ownsRow.alloc X2.out _
      case b1 => unfold maxLen; omega
      case b2 => omega
      case base => simp; omega
      case next =>
        intro v3 w3 hown hf _
        have ff : Fr w.heap.size [36] w2 w3 := (Fr.ofKept ((Kept.refl w2 []).alloc (.cells #[.slice a2 n2 c2] 36)) _ _).trans hf
        have row3 := RowsR.snoc (l := q) hown (fun i h h' => ⟨(XR.out i h h').1.frame ff (Nat.zero_le _) (by decide), (XR.out i h h').2⟩) hxl ((O2.out.rb 0).frame ff (Nat.zero_le _) (by decide)) (fun b hb => by have := (O2.out.lt b hb).1; omega)
        have Row3 := Lib.hid row3
        have K3 := Lib.hid (((Fr.ofKept K2.out 0 []).later ff (Nat.le_refl _)).kept)
        obtain ⟨a3, c3, e3⟩ := ownsRow_shape hown
        subst e3
        clear hown hf ff row3
        have hs6 := Hs6.out
        have e7 : (s : Int) + (6 + (n6 : Int)) = (u : Int) := by have := Hu.out; have := Hs6.out; omega
        have hsu : s < u := by have := Hu.out; have := Hs6.out; omega
        have x8 : (u : Int) ≤ (b.length : Int) := by have := Hu.out; have := Hs6.out; omega
        have x9 : (b.length : Int) ≤ (c : Int) := by have := Hu.out; have := Hs6.out; omega
        have fr := Lib.hid ((H.out.kept K3.out (by simp)).from_ u hs6 hc)
        by_cases hcu : c = u
        · rw [if_pos hcu] at fr
          subst hcu
          have e0 : b.length - c = 0 := by omega
          rw [e0] at fr
          clear e0
          go_wp2_with fail
          refine (first_any _ (b.drop c) w3 fr.out (by simp; omega)).mono ?_
          rintro e w4 ⟨v4, rfl, hr, hk⟩
          have R4 := Lib.hid hr; have K4 := Lib.hid (K3.out.trans hk (by simp)); have Row4 := Lib.hid (Row3.out.frame (Fr.ofKept hk w.heap.size []) (Nat.zero_le _) (by simp) (by simp))
          obtain ⟨a7, n7, c7, hv7⟩ := hr.shape3
          subst hv7
          clear hr hk
          go_wp2
          go_roundw
          case rel => exact ⟨c, _, _, _, _, acc ++ [q], _, _, rfl, rfl, rfl, S2.out, hs6, S1.out, Row4.out, R4.out, K4.out⟩
          case measure => simp [intOf]; omega
        · rw [if_neg hcu] at fr
          go_wp2_with fail
          refine (first_any _ (b.drop u) w3 fr.out (by simp; omega)).mono ?_
          rintro e w4 ⟨v4, rfl, hr, hk⟩
          have R4 := Lib.hid hr; have K4 := Lib.hid (K3.out.trans hk (by simp)); have Row4 := Lib.hid (Row3.out.frame (Fr.ofKept hk w.heap.size []) (Nat.zero_le _) (by simp) (by simp))
          obtain ⟨a7, n7, c7, hv7⟩ := hr.shape3
          subst hv7
          clear hr hk
          go_wp2
          go_roundw
          case rel => exact ⟨u, _, _, _, _, acc ++ [q], _, _, rfl, rfl, rfl, S2.out, hs6, S1.out, Row4.out, R4.out, K4.out⟩
          case measure => simp [intOf]; omega

end Go.Proofs.Ytfhdblbiamdplaa
