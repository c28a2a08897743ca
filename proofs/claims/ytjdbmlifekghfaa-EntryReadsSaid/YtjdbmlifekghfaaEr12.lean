/-
  Eob, Eoc in one text.
-/
import Derived.Test.YtjdbmlifekghfaaEr11
import Derived.Deep.RegionHeld3
import Derived.Deep.DeepCutAuto
import Derived.Lib.SliceRun
import Derived.Shelf.Abstract
import Derived.Test.YtjdbmlifekghfaaEr2
namespace Go.Proofs.Ytjdbmlifekghfaa
set_option linter.unusedVariables false
open Go.RowKit

theorem Wtp.alloc {a w : World} {ps : List Nat} {v v' : Value} (s : Wtp a w ps v v') (o : Obj) : Wtp a (w.alloc o) ps v v' := ⟨s.1.alloc o, s.2⟩
theorem Wtp.drew {a w : World} {ps : List Nat} {v v' : Value} (s : Wtp a w ps v v') : Wtp a w.drew ps v v' := ⟨s.1.drew, s.2⟩
theorem Wr.alloc {R : Bx} {w : World} {B p : Nat} {v : Value} {l : List UInt8} (h : Wr R w B p v l) (o : Obj) : Wr R (w.alloc o) B p v l := h.kept ((Kept.refl w []).alloc o) (by simp) (by simp)
theorem Wr.drew {R : Bx} {w : World} {B p : Nat} {v : Value} {l : List UInt8} (h : Wr R w B p v l) : Wr R w.drew B p v l := h.kept (Kept.refl w []).drew (by simp) (by simp)

def Far (p : Nat) (v : Value) (b : Nat) : Prop := b ≠ p ∧ v.ownBlock ≠ some b
theorem Far.not {p : Nat} {v : Value} {b : Nat} (h : Far p v b) : b ∉ [p] ++ v.ownBlock.toList := by
  intro hm
  rcases List.mem_append.1 hm with h1 | h1
  · exact h.1 (by simpa using h1)
  · exact h.2 (by simpa using h1)
theorem Wtp.heap {a w : World} {p : Nat} {v v' : Value} (s : Wtp a w [p] v v') {b : Nat} (f : Far p v b) {o : Obj} (h : a.heap[b]? = some o) : w.heap[b]? = some o := s.1.heap f.not h
theorem Wtp.rdK {α : Type} {E : Enc α} {a w : World} {p : Nat} {v v' sv : Value} {xs : List α} (s : Wtp a w [p] v v') (h : RdK E a sv xs) (hb : ∀ b, sv.ownBlock = some b → Far p v b) : RdK E w sv xs :=
  h.kept s.1 (fun b hb' => (hb b hb').not)
theorem Wtp.far {a w : World} {p : Nat} {v v' : Value} (s : Wtp a w [p] v v') {b : Nat} (f : Far p v b) (hb : b < a.heap.size) : Far p v' b := by
  refine ⟨f.1, fun e => ?_⟩
  rcases s.2 with h | ⟨g, h, hg⟩
  · exact f.2 (h ▸ e)
  · rw [h] at e; cases e; omega

theorem Wr.far {R : Bx} {w : World} {B p : Nat} {v : Value} {l : List UInt8} (h : Wr R w B p v l) {b : Nat} (hb : w.heap.size ≤ b) : Far p v b := by
  have h1 := h.size
  refine ⟨by omega, fun e => ?_⟩
  have := (h.2.lt b e).2
  omega

theorem rdI_new {w : World} {g n : Nat} {us : Array Value} {T : TypeId} {xs : List Int} (h : w.heap[g]? = some (.cells us T (0, 0))) (hu : us.toList = ic xs) (hn : xs.length = n) (hm : n ≤ 1000) : RdI w (.slice (some ⟨g, 0, none⟩) n n) xs := by
  refine ⟨some ⟨g, 0, none⟩, n, by rw [hn], by omega, by unfold maxLen; omega, by simp, fun _ => ⟨g, 0, rfl, fun i hi => ?_⟩⟩
  rw [cell_of_row w g _ _ _ _ h, Nat.zero_add, ← Array.getElem?_toList, hu, ic_get _ _ hi]

set_option maxHeartbeats 1000000 in
set_option maxRecDepth 100000 in
theorem wmany_any (B p : Nat) (v : Value) (l : List UInt8) (n c : Nat) (lb : Array Value) (G : Nat → List UInt8) (a : World) (ec : ∀ args w, (callFunc c args).run Try.prog w = .ok (.enter c args) w)
    (hw : Wr wB a B p v l) (hB : B ≤ a.heap.size) (hn : n ≤ 255) (hl : l.length ≤ 1000000000) (hG : G 0 = [])
    (hc : ∀ (k : Nat) (v' : Value) (W : World), k < n → Wr wB W B p v' (l ++ numL n ++ G k) → Wtp a W [p] v v' →
      Calls Try.prog c (#[.int .i64 k] ++ lb) W fun e w' => e = .returned (.tuple #[]) ∧ ∃ v2, Wr wB w' B p v2 (l ++ numL n ++ G (k + 1)) ∧ Wtp W w' [p] v' v2) :
    Calls Try.prog 73 #[.pointer (some ⟨p, 0, none⟩), .int .i64 n, .func (.func c) #[] lb] a fun e w' => e = .returned (.tuple #[]) ∧ ∃ v', Wr wB w' B p v' (l ++ numL n ++ G n) ∧ Wtp a w' [p] v v' := by
  have HW := Lib.hid hw; have HC := Lib.hid hc; have HG := Lib.hid hG; have HL := Lib.hid hl
  have e0 : decide ((n : Int) ≤ 255) = true := by simp; omega
  clear hw hc hG hl
  go_enter Try.func73, Try.ntmps73
  go_wp2_with fail
  refine (must_any B p v _ a HW.out).mono ?_
  rintro e w2 ⟨rfl, g2, s2⟩
  have G2 := Lib.hid g2; have S2 := Lib.hid s2
  obtain ⟨c1, _⟩ := g2.bad
  have hne := G2.out.far (Nat.le_refl _)
  have NE := Lib.hid hne
  clear g2 s2 hne
  go_wp2_with fail
  refine (nums_any B p v l _ [(n : Int)] _ (G2.out.alloc _) ?_ (rdI_new (heap_alloc_new w2 _) rfl rfl (by simp)) ?_ (by simp) ?_ HL.out).mono ?_
  · have := S2.out.1.size; simp; omega
  · intro x hx; simp only [List.mem_singleton] at hx; subst hx; exact ⟨by omega, by omega⟩
  · intro b hb; simp only [Value.ownBlock, Option.some.injEq] at hb; subst hb; exact NE.out
  rintro e w3 ⟨rfl, v3, g3, s3⟩
  have G3 : RowKit.Hid (Wr wB w3 B p v3 (l ++ numL n ++ G 0)) := Lib.hid (by rw [HG.out, List.append_nil]; simpa [manyL, wholeL] using g3)
  have S3 := Lib.hid ((S2.out.alloc _).trans s3)
  clear g3 s3 c1
  go_wp2
  go_loopw [6, 20] (fun _ t wr => ∃ (k : Nat) (v' : Value), t = .int .i64 k ∧ k ≤ n ∧ Wr wB wr B p v' (l ++ numL n ++ G k) ∧ Wtp a wr [p] v v') (fun _ t _ => n - (intOf t).toNat)
  case atStart => exact ⟨0, v3, rfl, Nat.zero_le _, G3.out, S3.out⟩
  case round =>
    obtain ⟨k, v1, rfl, hk, hw1, hs1⟩ := hrel
    have W1 := Lib.hid hw1; have S1 := Lib.hid hs1
    clear hw1 hs1
    by_cases hlt : k < n
    · have x1 : (k : Int) < (n : Int) := by omega
      have call := HC.out k v1 wr hlt W1.out S1.out
      go_wp2_with (go_at_fn c; refine call.mono ?_; rintro e w4 ⟨rfl, v4, g4, s4⟩)
      have G4 := Lib.hid g4; have S4 := Lib.hid s4
      clear g4 s4 call
      go_wp2
      go_roundw
      case rel => exact ⟨k + 1, v4, by go_num, by omega, G4.out, S1.out.trans S4.out⟩
      case measure => simp [intOf]; omega
    · have x1 : ¬ (k : Int) < (n : Int) := by omega
      obtain rfl : k = n := by omega
      go_wp2
      go_end0
      exact ⟨rfl, v1, by simpa only [List.append_assoc] using W1.out, S1.out⟩

structure Cap (a : World) (p : Nat) (v : Value) (hl hw : Nat) (T : TypeId) (cs : Array Value) : Prop where
  bl : a.heap[hl]? = some (.cells cs T (0, 0))
  bw : a.heap[hw]? = some (.cells #[.pointer (some ⟨p, 0, none⟩)] 79 (0, 0))
  fl : Far p v hl
  fw : Far p v hw
theorem Cap.on {a w : World} {p : Nat} {v v' : Value} {hl hw : Nat} {T : TypeId} {cs : Array Value} (c : Cap a p v hl hw T cs) (s : Wtp a w [p] v v') : Cap w p v' hl hw T cs :=
  ⟨s.heap c.fl c.bl, s.heap c.fw c.bw, s.far c.fl (Array.getElem?_eq_some_iff.1 c.bl).1, s.far c.fw (Array.getElem?_eq_some_iff.1 c.bw).1⟩

set_option maxHeartbeats 2000000 in
set_option maxRecDepth 100000 in
theorem wop_any (B p hl hw : Nat) (v sv : Value) (l : List UInt8) (xs : List Ox) (k : Nat) (o : Ox) (w : World) (W : Wr wB w B p v l) (hB : B ≤ w.heap.size) (C : Cap w p v hl hw 38 #[sv]) (hs : RdK encO w sv xs) (hx : xs[k]? = some o) (hb : ∀ b, sv.ownBlock = some b → Far p v b) (ho : o.Right) (hl' : l.length ≤ 100000000) :
    Calls Try.prog 74 #[.int .i64 k, .pointer (some ⟨hl, 0, none⟩), .pointer (some ⟨hw, 0, none⟩)] w fun e w' => e = .returned (.tuple #[]) ∧ ∃ v', Wr wB w' B p v' (l ++ o.encL) ∧ Wtp w w' [p] v v' := by
  obtain ⟨sa, sc, rfl, _⟩ := id hs
  obtain ⟨sb, so, rfl, hcell⟩ := hs.at hx
  obtain ⟨b0, b1, b2, b3⟩ := o
  have q0 : w.cell? ⟨sb, so + k * 4, none⟩ = some (.int .i64 b0) := hcell 0 (by decide)
  have q1 : w.cell? ⟨sb, so + k * 4 + 1, none⟩ = some (.bool b1) := hcell 1 (by decide)
  have q2 : w.cell? ⟨sb, so + k * 4 + 2, none⟩ = some (.int .i64 b2) := hcell 2 (by decide)
  have q3 : w.cell? ⟨sb, so + k * 4 + 3, none⟩ = some (.string b3) := hcell 3 (by decide)
  have xl : (k : Int) < (xs.length : Int) := by have := (List.getElem?_eq_some_iff.1 hx).1; omega
  have c0 : w.cell? ⟨hl, 0, none⟩ = some (.slice (some ⟨sb, so, none⟩) xs.length sc) := cell_of_row w hl 0 _ _ _ C.bl
  go_enter Try.func74, Try.ntmps74
  go_upto_region 1 with fail
  obtain ⟨W1, hW1⟩ : ∃ W1, W1 = w.alloc (.cells #[.int .i64 b0, .bool b1, .int .i64 b2, .string b3] 67) := ⟨_, rfl⟩
  rw [← hW1]
  obtain ⟨z, hz⟩ : ∃ z, z = w.heap.size := ⟨_, rfl⟩
  rw [← hz]
  have bz : W1.heap[z]? = some (.cells #[.int .i64 b0, .bool b1, .int .i64 b2, .string b3] 67 (0, 0)) := by rw [hW1, hz]; exact heap_alloc_new w _
  have s1 : Wtp w W1 [p] v v := by rw [hW1]; exact (Wtp.refl _ _ _).alloc _
  have k1 : Wr wB W1 B p v l := by rw [hW1]; exact W.alloc _
  have fz : Far p v z := by rw [hz]; exact W.far (Nat.le_refl _)
  have C1 := C.on s1
  have CS : RowKit.Hid (∀ V v', Wtp W1 V [p] v v' → V.cell? ⟨hw, 0, none⟩ = some (.pointer (some ⟨p, 0, none⟩)) ∧ ∀ j, V.cell? ⟨z, j, none⟩ = (#[.int .i64 b0, .bool b1, .int .i64 b2, .string b3] : Array Value)[j]?) := Lib.hid (fun V v' s => ⟨cell_of_row V hw 0 _ _ _ (s.heap C1.fw C1.bw), fun j => cell_of_row V z j _ _ _ (s.heap fz bz)⟩)
  have SZ : RowKit.Hid (B ≤ W1.heap.size) := Lib.hid (Nat.le_trans hB s1.1.size)
  have FS : RowKit.Hid (∀ V, Kept W1 V [] → Far p v V.heap.size) := Lib.hid (fun V hk => by have h1 := k1.size; have h2 := hk.size; exact ⟨by omega, fun e => by have := (k1.2.lt _ e).2; omega⟩)
  have S1 := Lib.hid s1; have K1 := Lib.hid k1; have hT : 0 ≤ b0 ∧ b0 ≤ 255 := ho.tb
  have hK : -9223372036854775808 ≤ b2 ∧ b2 ≤ 9223372036854775807 := ho.key
  have hX : b3.size ≤ 40 := ho.t
  have HT := Lib.hid hT; have HK := Lib.hid hK; have HX := Lib.hid hX; have HL := Lib.hid hl'
  clear hT hK hX hs hx hb ho hl' c0 q0 q1 q2 q3 hcell bz s1 k1 fz C1 C W hW1 hB xl
  clear hz
  have k8 := K1.out.drew
  have t8 : Wtp W1 W1.drew [p] v v := (Wtp.refl _ _ _).drew
  have y2 : (W1.drew.cell? ⟨hw, 0, none⟩ = some (.pointer (some ⟨p, 0, none⟩)) ∧ W1.drew.cell? ⟨z, 0, none⟩ = some (.int .i64 b0)) ∧ W1.drew.cell? ⟨z, 1, none⟩ = some (.bool b1) := ⟨⟨(CS.out _ _ t8).1, (CS.out _ _ t8).2 0⟩, (CS.out _ _ t8).2 1⟩
  have y3 : ∀ ob, ((W1.drew.alloc ob).cell? ⟨hw, 0, none⟩ = some (.pointer (some ⟨p, 0, none⟩)) ∧ (W1.drew.alloc ob).cell? ⟨z, 0, none⟩ = some (.int .i64 b0)) ∧ (W1.drew.alloc ob).cell? ⟨z, 1, none⟩ = some (.bool b1) := fun ob => ⟨⟨(CS.out _ _ (t8.alloc ob)).1, (CS.out _ _ (t8.alloc ob)).2 0⟩, (CS.out _ _ (t8.alloc ob)).2 1⟩
  go_region_held3 (fun V => (V.cell? ⟨hw, 0, none⟩ = some (.pointer (some ⟨p, 0, none⟩)) ∧ V.cell? ⟨z, 0, none⟩ = some (.int .i64 b0)) ∧ V.cell? ⟨z, 1, none⟩ = some (.bool b1)) (first | exact y2 | exact y3 _)
    (first
      | (go_at_call 75; refine (flag_any b1 _).mono ?_; rintro e w8 ⟨rfl, rfl⟩)
      | (go_at_call 49; refine (nums_any B p v l _ [b0, ((flag b1 : Nat) : Int)] _ (k8.alloc _) ?_ (rdI_new (heap_alloc_new _ _) rfl rfl (by simp)) ?_ (by simp) ?_ ?_).mono ?_; (have := SZ.out; simp; omega); (have := HT.out; have := flag_le b1; intro x hx; simp only [List.mem_cons, List.not_mem_nil, or_false] at hx; rcases hx with rfl | rfl; exact ⟨by omega, by omega⟩; exact ⟨by omega, by omega⟩); (intro b hb; simp only [Value.ownBlock, Option.some.injEq] at hb; subst hb; exact FS.out _ (Kept.refl _ _).drew); (have := HL.out; omega); rintro e w9 ⟨rfl, v9, g9, s9⟩; have t9 := (t8.alloc _).trans s9; have y2 : (w9.cell? ⟨hw, 0, none⟩ = some (.pointer (some ⟨p, 0, none⟩)) ∧ w9.cell? ⟨z, 0, none⟩ = some (.int .i64 b0)) ∧ w9.cell? ⟨z, 1, none⟩ = some (.bool b1) := ⟨⟨(CS.out _ _ t9).1, (CS.out _ _ t9).2 0⟩, (CS.out _ _ t9).2 1⟩))
  have L9 : RowKit.Hid ((l ++ manyL wholeL [b0, ((flag b1 : Nat) : Int)]).length ≤ 100000020) := Lib.hid (by
    have h1 := numL_ten (n := b0.toNat) (by have := HT.out; omega)
    have h2 := numL_ten (n := flag b1) (by have := flag_le b1; omega)
    have h3 := HL.out
    simp only [manyL, wholeL, List.length_append, List.length_nil, Int.toNat_natCast]; omega)
  have E9 : RowKit.Hid (manyL wholeL [b0, ((flag b1 : Nat) : Int)] = numL b0.toNat ++ numL (flag b1)) := Lib.hid (by simp [manyL, wholeL])
  have G9 := Lib.hid g9; have T9 := Lib.hid t9; have SZ9 : RowKit.Hid (B ≤ w9.heap.size) := Lib.hid (Nat.le_trans SZ.out t9.1.size)
  clear g9 t9 s9 y2 y3 k8 t8
  have k8 := G9.out.drew
  have t8 := T9.out.drew
  have y2 : w9.drew.cell? ⟨hw, 0, none⟩ = some (.pointer (some ⟨p, 0, none⟩)) ∧ w9.drew.cell? ⟨z, 2, none⟩ = some (.int .i64 b2) := ⟨(CS.out _ _ t8).1, (CS.out _ _ t8).2 2⟩
  go_wp2_with fail
  go_region_held3 (fun V => V.cell? ⟨hw, 0, none⟩ = some (.pointer (some ⟨p, 0, none⟩)) ∧ V.cell? ⟨z, 2, none⟩ = some (.int .i64 b2)) (exact y2)
    (first
      | (go_at_call 52; refine (int_any B p v9 _ b2 _ k8 SZ9.out HK.out (by have := L9.out; omega)).mono ?_; rintro e w10 ⟨rfl, v10, g10, s10⟩; have t10 := t8.trans s10; have y2 : w10.cell? ⟨hw, 0, none⟩ = some (.pointer (some ⟨p, 0, none⟩)) ∧ w10.cell? ⟨z, 2, none⟩ = some (.int .i64 b2) := ⟨(CS.out _ _ t10).1, (CS.out _ _ t10).2 2⟩))
  have G10 := Lib.hid g10; have T10 := Lib.hid t10
  clear g10 t10 s10 y2 k8 t8
  have y1 := (CS.out _ _ T10.out).1
  have y2 : w10.cell? ⟨z, 3, none⟩ = some (.string b3) := (CS.out _ _ T10.out).2 3
  go_wp2_with fail
  refine (etext_any B p v10 _ b3 w10 G10.out (Nat.le_trans SZ.out T10.out.1.size) HX.out (by have h1 := L9.out; have h2 := HK.out; have := numL_ten (Lib.zigzag_lt h2.1 h2.2); rw [List.length_append, intL]; omega)).mono ?_
  rintro e w11 ⟨rfl, v11, g11, s11⟩
  have G11 := Lib.hid g11; have T11 := Lib.hid (T10.out.trans s11)
  clear g11 s11 y1 y2
  go_wp2
  go_end0
  refine ⟨rfl, v11, ?_, S1.out.trans T11.out⟩
  have := G11.out
  rw [E9.out] at this
  simpa only [Ox.encL, Ox.r2, Ox.r3, Ox.r4, List.append_assoc] using this

end Go.Proofs.Ytjdbmlifekghfaa

namespace Go.Proofs.Ytjdbmlifekghfaa
set_option linter.unusedVariables false
open Go.RowKit

theorem conv_rd (w : World) (v : Value) (l : List UInt8) (h : Rd w v l) : (convert 22 9 v).run Try.prog w = .ok (.string (strL l)) w := by
  obtain ⟨a, c, rfl, hc, ha, hl⟩ := h
  by_cases hne : l = []
  · subst hne
    exact conv_empty w a c
  · obtain ⟨b, o, rfl, hcell⟩ := hl hne
    have := conv_take w b o c l.length l (Nat.le_refl _) hcell
    rwa [List.take_length] at this

theorem strL_data (l : List UInt8) : (strL l).data.toList = l := rfl


set_option maxHeartbeats 4000000 in
set_option maxRecDepth 100000 in
theorem wev_any (B p hl hw : Nat) (v sv : Value) (l : List UInt8) (xs : List Px) (k : Nat) (x : Px) (w : World) (W : Wr wB w B p v l) (hB : B ≤ w.heap.size) (C : Cap w p v hl hw 39 #[sv]) (hs : RdK encP w sv xs) (hx : xs[k]? = some x) (hb : ∀ b, sv.ownBlock = some b → Far p v b) (ho : x.Right) (hl' : l.length ≤ 100000000) :
    Calls Try.prog 76 #[.int .i64 k, .pointer (some ⟨hw, 0, none⟩), .pointer (some ⟨hl, 0, none⟩)] w fun e w' => e = .returned (.tuple #[]) ∧ ∃ v', Wr wB w' B p v' (l ++ x.encL) ∧ Wtp w w' [p] v v' := by
  obtain ⟨sa, sc, rfl, _⟩ := id hs
  obtain ⟨sb, so, rfl, _⟩ := hs.at hx
  obtain ⟨sp, e⟩ := x
  obtain ⟨e0, e1, e2, e3, e4, e5, e6, e7⟩ := e
  obtain ⟨E, hE⟩ : ∃ E : Ev, E = ⟨e0, e1, e2, e3, e4, e5, e6, e7⟩ := ⟨_, rfl⟩
  have hP : 0 ≤ sp ∧ sp ≤ 255 := ho.sp
  have hEr : E.Right := by rw [hE]; exact ho.ev
  have hEo : E.Ok := by rw [hE]; exact ho.ok
  have hcs : E.cs = #[.int .i64 e0, .int .i64 e1, .string e2, .int .i64 e3, .int .i64 e4, .int .u8 e5, .int .i64 e6, .string e7] := by rw [hE]; rfl
  have HR : RowKit.Hid (∀ V : World, Calls Try.prog 77 #[.agg #[.int .i64 e0, .int .i64 e1, .string e2, .int .i64 e3, .int .i64 e4, .int .u8 e5, .int .i64 e6, .string e7]] V fun en w' => en = .returned (.bool true) ∧ Kept V w' []) := Lib.hid (fun V => by
    have := right_any E V
    rw [hcs, (Ev.rightB_iff E).2 hEr] at this
    exact this)
  have HE : RowKit.Hid (∀ V : World, Calls Try.prog 79 #[.agg #[.int .i64 e0, .int .i64 e1, .string e2, .int .i64 e3, .int .i64 e4, .int .u8 e5, .int .i64 e6, .string e7]] V fun en w' => ∃ v', en = .returned v' ∧ Rd w' v' E.encL ∧ Kept V w' []) := Lib.hid (fun V => by
    have := encode_any E hEr hEo V
    rw [hcs] at this
    exact this.mono (fun _ _ h => by obtain ⟨v', h1, h2, h3⟩ := h; exact ⟨v', h1, h2.rd, h3⟩))
  have HEl : RowKit.Hid (E.encL.length ≤ 200) := Lib.hid (Ev.encL_len hEr hEo)
  have HX : RowKit.Hid ((⟨sp, ⟨e0, e1, e2, e3, e4, e5, e6, e7⟩⟩ : Px).encL = numL sp.toNat ++ textL E.encL) := Lib.hid (by rw [hE]; rfl)
  have xl : (k : Int) < (xs.length : Int) := by have := (List.getElem?_eq_some_iff.1 hx).1; omega
  have CS : RowKit.Hid (∀ V v', Wtp w V [p] v v' → V.cell? ⟨hw, 0, none⟩ = some (.pointer (some ⟨p, 0, none⟩)) ∧ V.cell? ⟨hl, 0, none⟩ = some (.slice (some ⟨sb, so, none⟩) xs.length sc) ∧ ∀ j, j < 9 → V.cell? ⟨sb, so + k * 9 + j, none⟩ = (#[.int .i64 sp, .int .i64 e0, .int .i64 e1, .string e2, .int .i64 e3, .int .i64 e4, .int .u8 e5, .int .i64 e6, .string e7] : Array Value)[j]?) := Lib.hid (fun V v' s => ⟨cell_of_row V hw 0 _ _ _ (s.heap C.fw C.bw), cell_of_row V hl 0 _ _ _ (s.heap C.fl C.bl), fun j hj => (s.rdK hs hb).here hx j hj⟩)
  have FS : RowKit.Hid (∀ V, Kept w V [] → Far p v V.heap.size) := Lib.hid (fun V hk => by have h1 := W.size; have h2 := hk.size; exact ⟨by omega, fun e => by have := (W.2.lt _ e).2; omega⟩)
  have HW := Lib.hid W; have HP := Lib.hid hP; have HL := Lib.hid hl'; have HB := Lib.hid hB
  clear hs hx hb ho hl' C W hB hP hEr hEo hcs hE
  go_enter Try.func76, Try.ntmps76
  have k8 := HW.out.drew
  have t8 : Wtp w w.drew [p] v v := (Wtp.refl _ _ _).drew
  have y2 : w.drew.cell? ⟨hw, 0, none⟩ = some (.pointer (some ⟨p, 0, none⟩)) ∧ w.drew.cell? ⟨hl, 0, none⟩ = some (.slice (some ⟨sb, so, none⟩) xs.length sc) ∧ w.drew.cell? ⟨sb, so + k * 9, none⟩ = some (.int .i64 sp) := ⟨(CS.out _ _ t8).1, (CS.out _ _ t8).2.1, (CS.out _ _ t8).2.2 0 (by decide)⟩
  have y3 : ∀ ob, (w.drew.alloc ob).cell? ⟨hw, 0, none⟩ = some (.pointer (some ⟨p, 0, none⟩)) ∧ (w.drew.alloc ob).cell? ⟨hl, 0, none⟩ = some (.slice (some ⟨sb, so, none⟩) xs.length sc) ∧ (w.drew.alloc ob).cell? ⟨sb, so + k * 9, none⟩ = some (.int .i64 sp) := fun ob => ⟨(CS.out _ _ (t8.alloc ob)).1, (CS.out _ _ (t8.alloc ob)).2.1, (CS.out _ _ (t8.alloc ob)).2.2 0 (by decide)⟩
  go_wp2_with fail
  go_region_held3 (fun V => V.cell? ⟨hw, 0, none⟩ = some (.pointer (some ⟨p, 0, none⟩)) ∧ V.cell? ⟨hl, 0, none⟩ = some (.slice (some ⟨sb, so, none⟩) xs.length sc) ∧ V.cell? ⟨sb, so + k * 9, none⟩ = some (.int .i64 sp)) (first | exact y2 | exact y3 _)
    (first
      | (go_at_call 49; refine (nums_any B p v l _ [sp] _ (k8.alloc _) ?_ (rdI_new (heap_alloc_new _ _) rfl rfl (by simp)) ?_ (by simp) ?_ ?_).mono ?_; (have := HB.out; simp; omega); (have := HP.out; intro x hx; simp only [List.mem_singleton] at hx; subst hx; exact ⟨by omega, by omega⟩); (intro b hb; simp only [Value.ownBlock, Option.some.injEq] at hb; subst hb; exact FS.out _ (Kept.refl _ _).drew); (have := HL.out; omega); rintro e w9 ⟨rfl, v9, g9, s9⟩; have t9 := (t8.alloc _).trans s9; have y2 : w9.cell? ⟨hw, 0, none⟩ = some (.pointer (some ⟨p, 0, none⟩)) ∧ w9.cell? ⟨hl, 0, none⟩ = some (.slice (some ⟨sb, so, none⟩) xs.length sc) ∧ w9.cell? ⟨sb, so + k * 9, none⟩ = some (.int .i64 sp) := ⟨(CS.out _ _ t9).1, (CS.out _ _ t9).2.1, (CS.out _ _ t9).2.2 0 (by decide)⟩))
  have L9 : RowKit.Hid ((l ++ manyL wholeL [sp]).length ≤ 100000010) := Lib.hid (by
    have h1 := numL_ten (n := sp.toNat) (by have := HP.out; omega)
    have h3 := HL.out
    simp only [manyL, wholeL, List.length_append, List.length_nil]; omega)
  have E9 : RowKit.Hid (manyL wholeL [sp] = numL sp.toNat) := Lib.hid (by simp [manyL, wholeL])
  have G9 := Lib.hid g9; have T9 := Lib.hid t9
  clear g9 t9 s9 y2 y3 k8 t8
  have k8 := G9.out.drew
  have t8 := T9.out.drew
  have y2 : w9.drew.cell? ⟨hw, 0, none⟩ = some (.pointer (some ⟨p, 0, none⟩)) ∧ w9.drew.cell? ⟨hl, 0, none⟩ = some (.slice (some ⟨sb, so, none⟩) xs.length sc) ∧ w9.drew.cell? ⟨sb, so + k * 9 + 1, none⟩ = some (.int .i64 e0) ∧ w9.drew.cell? ⟨sb, so + k * 9 + 2, none⟩ = some (.int .i64 e1) ∧ w9.drew.cell? ⟨sb, so + k * 9 + 3, none⟩ = some (.string e2) ∧ w9.drew.cell? ⟨sb, so + k * 9 + 4, none⟩ = some (.int .i64 e3) ∧ w9.drew.cell? ⟨sb, so + k * 9 + 5, none⟩ = some (.int .i64 e4) ∧ w9.drew.cell? ⟨sb, so + k * 9 + 6, none⟩ = some (.int .u8 e5) ∧ w9.drew.cell? ⟨sb, so + k * 9 + 7, none⟩ = some (.int .i64 e6) ∧ w9.drew.cell? ⟨sb, so + k * 9 + 8, none⟩ = some (.string e7) := ⟨(CS.out _ _ t8).1, (CS.out _ _ t8).2.1, (CS.out _ _ t8).2.2 1 (by decide), (CS.out _ _ t8).2.2 2 (by decide), (CS.out _ _ t8).2.2 3 (by decide), (CS.out _ _ t8).2.2 4 (by decide), (CS.out _ _ t8).2.2 5 (by decide), (CS.out _ _ t8).2.2 6 (by decide), (CS.out _ _ t8).2.2 7 (by decide), (CS.out _ _ t8).2.2 8 (by decide)⟩
  go_wp2_with fail
  go_region_held3 (fun V => V.cell? ⟨hw, 0, none⟩ = some (.pointer (some ⟨p, 0, none⟩)) ∧ V.cell? ⟨hl, 0, none⟩ = some (.slice (some ⟨sb, so, none⟩) xs.length sc) ∧ V.cell? ⟨sb, so + k * 9 + 1, none⟩ = some (.int .i64 e0) ∧ V.cell? ⟨sb, so + k * 9 + 2, none⟩ = some (.int .i64 e1) ∧ V.cell? ⟨sb, so + k * 9 + 3, none⟩ = some (.string e2) ∧ V.cell? ⟨sb, so + k * 9 + 4, none⟩ = some (.int .i64 e3) ∧ V.cell? ⟨sb, so + k * 9 + 5, none⟩ = some (.int .i64 e4) ∧ V.cell? ⟨sb, so + k * 9 + 6, none⟩ = some (.int .u8 e5) ∧ V.cell? ⟨sb, so + k * 9 + 7, none⟩ = some (.int .i64 e6) ∧ V.cell? ⟨sb, so + k * 9 + 8, none⟩ = some (.string e7)) (exact y2)
    (first
      | (go_at_call 77; refine (HR.out _).mono ?_; rintro e w10 ⟨rfl, k10⟩; have k8 := k8.kept k10 (by simp) (by simp); have t8 : Wtp w w10 [p] v v9 := ⟨t8.1.trans k10 (by simp), t8.2⟩; have y2 : w10.cell? ⟨hw, 0, none⟩ = some (.pointer (some ⟨p, 0, none⟩)) ∧ w10.cell? ⟨hl, 0, none⟩ = some (.slice (some ⟨sb, so, none⟩) xs.length sc) ∧ w10.cell? ⟨sb, so + k * 9 + 1, none⟩ = some (.int .i64 e0) ∧ w10.cell? ⟨sb, so + k * 9 + 2, none⟩ = some (.int .i64 e1) ∧ w10.cell? ⟨sb, so + k * 9 + 3, none⟩ = some (.string e2) ∧ w10.cell? ⟨sb, so + k * 9 + 4, none⟩ = some (.int .i64 e3) ∧ w10.cell? ⟨sb, so + k * 9 + 5, none⟩ = some (.int .i64 e4) ∧ w10.cell? ⟨sb, so + k * 9 + 6, none⟩ = some (.int .u8 e5) ∧ w10.cell? ⟨sb, so + k * 9 + 7, none⟩ = some (.int .i64 e6) ∧ w10.cell? ⟨sb, so + k * 9 + 8, none⟩ = some (.string e7) := ⟨(CS.out _ _ t8).1, (CS.out _ _ t8).2.1, (CS.out _ _ t8).2.2 1 (by decide), (CS.out _ _ t8).2.2 2 (by decide), (CS.out _ _ t8).2.2 3 (by decide), (CS.out _ _ t8).2.2 4 (by decide), (CS.out _ _ t8).2.2 5 (by decide), (CS.out _ _ t8).2.2 6 (by decide), (CS.out _ _ t8).2.2 7 (by decide), (CS.out _ _ t8).2.2 8 (by decide)⟩)
      | (go_at_call 71; refine (must_any B p v9 _ _ k8).mono ?_; rintro e w11 ⟨rfl, g11, s11⟩; have t11 := t8.trans s11; have y2 : w11.cell? ⟨hw, 0, none⟩ = some (.pointer (some ⟨p, 0, none⟩)) ∧ w11.cell? ⟨hl, 0, none⟩ = some (.slice (some ⟨sb, so, none⟩) xs.length sc) ∧ w11.cell? ⟨sb, so + k * 9 + 1, none⟩ = some (.int .i64 e0) ∧ w11.cell? ⟨sb, so + k * 9 + 2, none⟩ = some (.int .i64 e1) ∧ w11.cell? ⟨sb, so + k * 9 + 3, none⟩ = some (.string e2) ∧ w11.cell? ⟨sb, so + k * 9 + 4, none⟩ = some (.int .i64 e3) ∧ w11.cell? ⟨sb, so + k * 9 + 5, none⟩ = some (.int .i64 e4) ∧ w11.cell? ⟨sb, so + k * 9 + 6, none⟩ = some (.int .u8 e5) ∧ w11.cell? ⟨sb, so + k * 9 + 7, none⟩ = some (.int .i64 e6) ∧ w11.cell? ⟨sb, so + k * 9 + 8, none⟩ = some (.string e7) := ⟨(CS.out _ _ t11).1, (CS.out _ _ t11).2.1, (CS.out _ _ t11).2.2 1 (by decide), (CS.out _ _ t11).2.2 2 (by decide), (CS.out _ _ t11).2.2 3 (by decide), (CS.out _ _ t11).2.2 4 (by decide), (CS.out _ _ t11).2.2 5 (by decide), (CS.out _ _ t11).2.2 6 (by decide), (CS.out _ _ t11).2.2 7 (by decide), (CS.out _ _ t11).2.2 8 (by decide)⟩))
  have G11 := Lib.hid g11; have T11 := Lib.hid t11
  clear g11 t11 s11 y2 k8 t8
  have k8 := G11.out.drew
  have t8 := T11.out.drew
  go_wp2_with fail
  refine wp_region_held_drew (S := fun Z => ∃ v', Wtp w Z [p] v v') (by kernel_rfl) ⟨_, t8⟩ (fun hHeld => ?_)
  refine wpAnyH_take (i := 0) (oi := _) (v := .pointer (some ⟨p, 0, none⟩)) rfl (by kernel_rfl) (by kernel_rfl) (by kernel_rfl) (fun _ _ _ h => h) (Or.inl ⟨by rfl, fun V hV => by (obtain ⟨uV, hV⟩ := hV; obtain ⟨z0, z1, z2⟩ := CS.out _ _ hV; clear hV z2; go_simp)⟩) hHeld ?_
  change wpAnyH _ _ _ _ _ _ _ (Act.put _ (some 20) _) _
  simp only [Act.put, List.setIfInBounds_toArray, List.set_cons_zero, List.set_cons_succ]
  refine wpAnyH_take (i := 1) (oi := _) (v := .pointer (some ⟨p, 0, none⟩)) rfl (by kernel_rfl) (by kernel_rfl) (by kernel_rfl) (fun _ _ _ h => h) (Or.inl ⟨by rfl, fun V hV => by go_simp⟩) hHeld ?_
  change wpAnyH _ _ _ _ _ _ _ (Act.put _ (some 21) _) _
  simp only [Act.put, List.setIfInBounds_toArray, List.set_cons_zero, List.set_cons_succ]
  refine wpAnyH_take (i := 2) (oi := _) (v := .pointer (some ⟨p, 0, none⟩)) rfl (by kernel_rfl) (by kernel_rfl) (by kernel_rfl) (fun _ _ _ h => h) (Or.inl ⟨by rfl, fun V hV => by go_simp⟩) hHeld ?_
  change wpAnyH _ _ _ _ _ _ _ (Act.put _ (some 22) _) _
  simp only [Act.put, List.setIfInBounds_toArray, List.set_cons_zero, List.set_cons_succ]
  refine wpAnyH_take (i := 3) (oi := _) (v := .slice (some ⟨sb, so, none⟩) xs.length sc) rfl (by kernel_rfl) (by kernel_rfl) (by kernel_rfl) (fun _ _ _ h => h) (Or.inl ⟨by rfl, fun V hV => by (obtain ⟨uV, hV⟩ := hV; obtain ⟨z0, z1, z2⟩ := CS.out _ _ hV; clear hV z2; go_simp)⟩) hHeld ?_
  change wpAnyH _ _ _ _ _ _ _ (Act.put _ (some 23) _) _
  simp only [Act.put, List.setIfInBounds_toArray, List.set_cons_zero, List.set_cons_succ]
  refine wpAnyH_take (i := 4) (oi := _) (v := .int .i64 k) rfl (by kernel_rfl) (by kernel_rfl) (by kernel_rfl) (fun _ _ _ h => h) (Or.inl ⟨by rfl, fun V hV => by go_simp⟩) hHeld ?_
  change wpAnyH _ _ _ _ _ _ _ (Act.put _ (some 24) _) _
  simp only [Act.put, List.setIfInBounds_toArray, List.set_cons_zero, List.set_cons_succ]
  refine wpAnyH_take (i := 5) (oi := _) (v := .pointer (some ⟨sb, so + k * 9, none⟩)) rfl (by kernel_rfl) (by kernel_rfl) (by kernel_rfl) (fun _ _ _ h => h) (Or.inl ⟨by rfl, fun V hV => by go_simp⟩) hHeld ?_
  change wpAnyH _ _ _ _ _ _ _ (Act.put _ (some 25) _) _
  simp only [Act.put, List.setIfInBounds_toArray, List.set_cons_zero, List.set_cons_succ]
  refine wpAnyH_take (i := 6) (oi := _) (v := .pointer (some ⟨sb, so + k * 9 + 1, none⟩)) rfl (by kernel_rfl) (by kernel_rfl) (by kernel_rfl) (fun _ _ _ h => h) (Or.inl ⟨by rfl, fun V hV => by go_simp⟩) hHeld ?_
  change wpAnyH _ _ _ _ _ _ _ (Act.put _ (some 26) _) _
  simp only [Act.put, List.setIfInBounds_toArray, List.set_cons_zero, List.set_cons_succ]
  refine wpAnyH_take (i := 7) (oi := _) (v := .agg #[.int .i64 e0, .int .i64 e1, .string e2, .int .i64 e3, .int .i64 e4, .int .u8 e5, .int .i64 e6, .string e7]) rfl (by kernel_rfl) (by kernel_rfl) (by kernel_rfl) (fun _ _ _ h => h) (Or.inl ⟨by rfl, fun V hV => by (obtain ⟨uV, hV⟩ := hV; obtain ⟨z0, z1, z2⟩ := CS.out _ _ hV; have y1 := z2 1 (by decide); have y2 := z2 2 (by decide); have y3 := z2 3 (by decide); have y4 := z2 4 (by decide); have y5 := z2 5 (by decide); have y6 := z2 6 (by decide); have y7 := z2 7 (by decide); have y8 := z2 8 (by decide); clear hV z2; simp only [List.getElem?_toArray, List.getElem?_cons_zero, List.getElem?_cons_succ] at y1 y2 y3 y4 y5 y6 y7 y8; go_simp)⟩) hHeld ?_
  change wpAnyH _ _ _ _ _ _ _ (Act.put _ (some 27) _) _
  simp only [Act.put, List.setIfInBounds_toArray, List.set_cons_zero, List.set_cons_succ]
  refine wpAnyH_ready (rs := [8]) (by kernel_rfl) (by simp) ?_
  refine AllReadyH.cons (o := _) rfl (fun K hK => ?_) AllReadyH.nil
  go_simp
  go_at_call 79
  refine (HE.out _).mono ?_
  rintro e w12 ⟨v12, rfl, r12, k12⟩
  obtain ⟨a12, n12, c12, hv12⟩ := r12.shape3
  subst hv12
  have cv := conv_rd w12 _ _ r12
  have k8 := k8.kept k12 (by simp) (by simp)
  have t8 : Wtp w w12 [p] v v9 := ⟨t8.1.trans k12 (by simp), t8.2⟩
  go_wp2_with fail
  refine hK.out _ _ ⟨_, t8⟩ (fun hHeld => ?_)
  clear hK K
  refine wpAnyH_ready (rs := [9]) (by kernel_rfl) (by simp) ?_
  refine AllReadyH.cons (o := _) rfl (fun K hK => ?_) AllReadyH.nil
  go_wp2_with fail
  refine hK.out _ _ ⟨_, t8⟩ (fun hHeld => ?_)
  clear hK K
  refine wpAnyH_ready (rs := [10]) (by kernel_rfl) (by simp) ?_
  refine AllReadyH.cons (o := _) rfl (fun K hK => ?_) AllReadyH.nil
  go_simp
  go_at_call 78
  refine (text_any B p v9 _ (strL E.encL) _ k8 ?_ ?_ ?_).mono ?_
  · have := HB.out; have := t8.1.size; omega
  · have := HEl.out; rw [strL_size]; omega
  · have := L9.out; omega
  rintro e w13 ⟨rfl, v13, g13, s13⟩
  have t13 := t8.trans s13
  refine hK.out _ _ ⟨_, t13⟩ (fun hHeld => ?_)
  clear hK K
  refine wpAnyH_done (by kernel_rfl) ?_ _
  have G13 := Lib.hid g13; have T13 := Lib.hid t13
  clear g13 t13 s13 k8 t8
  go_wp2
  go_end0
  refine ⟨rfl, v13, ?_, T13.out⟩
  have := G13.out
  rw [E9.out, strL_data] at this
  rw [HX.out, ← List.append_assoc]
  exact this

set_option maxHeartbeats 4000000 in
set_option maxRecDepth 100000 in
theorem wopen_any (B p hl hw : Nat) (v sv tn tm ta : Value) (l : List UInt8) (xs : List Int) (k : Nat) (w : World) (W : Wr wB w B p v l) (hB : B ≤ w.heap.size) (C : Cap w p v hl hw 33 #[tn, tm, sv, ta]) (hs : RdI w sv xs) (hx : k < xs.length) (hb : ∀ b, sv.ownBlock = some b → Far p v b) (ho : ∀ x ∈ xs, whole x) (hl' : l.length ≤ 100000000) :
    Calls Try.prog 80 #[.int .i64 k, .pointer (some ⟨hw, 0, none⟩), .pointer (some ⟨hl, 0, none⟩)] w fun e w' => e = .returned (.tuple #[]) ∧ ∃ v', Wr wB w' B p v' (l ++ wholeL xs[k]) ∧ Wtp w w' [p] v v' := by
  obtain ⟨sa, sc, rfl, _, _, _, hcell⟩ := id hs
  obtain ⟨sb, so, rfl, _⟩ := hcell (by rintro rfl; simp at hx)
  obtain ⟨n, hn⟩ : ∃ n, n = xs[k] := ⟨_, rfl⟩
  have hP : whole n := by rw [hn]; exact ho _ (List.getElem_mem hx)
  have hg : xs.getD k 0 = n := by rw [List.getD, List.getElem?_eq_getElem hx]; exact hn.symm
  have xl : (k : Int) < (xs.length : Int) := by omega
  rw [← hn]
  have CS : RowKit.Hid (∀ V v', Wtp w V [p] v v' → V.cell? ⟨hw, 0, none⟩ = some (.pointer (some ⟨p, 0, none⟩)) ∧ V.cell? ⟨hl, 2, none⟩ = some (.slice (some ⟨sb, so, none⟩) xs.length sc) ∧ V.cell? ⟨sb, so + k, none⟩ = some (.int .i64 n)) := Lib.hid (fun V v' s => by
    refine ⟨cell_of_row V hw 0 _ _ _ (s.heap C.fw C.bw), cell_of_row V hl 2 _ _ _ (s.heap C.fl C.bl), ?_⟩
    obtain ⟨a', c', e1, _, _, _, hla⟩ := s.rdI hs hb
    simp only [Value.slice.injEq] at e1
    obtain ⟨b', o', e2, hc⟩ := hla (by rintro rfl; simp at hx)
    rw [← e1.1] at e2
    simp only [Option.some.injEq, Addr.mk.injEq] at e2
    obtain ⟨rfl, rfl, _⟩ := e2
    rw [hc k hx, hg])
  have FS : RowKit.Hid (∀ V, Kept w V [] → Far p v V.heap.size) := Lib.hid (fun V hk => by have h1 := W.size; have h2 := hk.size; exact ⟨by omega, fun e => by have := (W.2.lt _ e).2; omega⟩)
  have HW := Lib.hid W; have HP := Lib.hid hP; have HL := Lib.hid hl'; have HB := Lib.hid hB
  clear hs hx hb ho hl' C W hB hP hn hg hcell
  go_enter Try.func80, Try.ntmps80
  have k8 := HW.out.drew
  have t8 : Wtp w w.drew [p] v v := (Wtp.refl _ _ _).drew
  have y2 : w.drew.cell? ⟨hw, 0, none⟩ = some (.pointer (some ⟨p, 0, none⟩)) ∧ w.drew.cell? ⟨hl, 2, none⟩ = some (.slice (some ⟨sb, so, none⟩) xs.length sc) ∧ w.drew.cell? ⟨sb, so + k, none⟩ = some (.int .i64 n) := ⟨(CS.out _ _ t8).1, (CS.out _ _ t8).2.1, (CS.out _ _ t8).2.2⟩
  have y3 : ∀ ob, (w.drew.alloc ob).cell? ⟨hw, 0, none⟩ = some (.pointer (some ⟨p, 0, none⟩)) ∧ (w.drew.alloc ob).cell? ⟨hl, 2, none⟩ = some (.slice (some ⟨sb, so, none⟩) xs.length sc) ∧ (w.drew.alloc ob).cell? ⟨sb, so + k, none⟩ = some (.int .i64 n) := fun ob => ⟨(CS.out _ _ (t8.alloc ob)).1, (CS.out _ _ (t8.alloc ob)).2.1, (CS.out _ _ (t8.alloc ob)).2.2⟩
  go_wp2_with fail
  go_region_held3 (fun V => V.cell? ⟨hw, 0, none⟩ = some (.pointer (some ⟨p, 0, none⟩)) ∧ V.cell? ⟨hl, 2, none⟩ = some (.slice (some ⟨sb, so, none⟩) xs.length sc) ∧ V.cell? ⟨sb, so + k, none⟩ = some (.int .i64 n)) (first | exact y2 | exact y3 _)
    (first
      | (go_at_call 49; refine (nums_any B p v l _ [n] _ (k8.alloc _) ?_ (rdI_new (heap_alloc_new _ _) rfl rfl (by simp)) ?_ (by simp) ?_ ?_).mono ?_; (have := HB.out; simp; omega); (intro x hx; simp only [List.mem_singleton] at hx; subst hx; exact HP.out); (intro b hb; simp only [Value.ownBlock, Option.some.injEq] at hb; subst hb; exact FS.out _ (Kept.refl _ _).drew); (have := HL.out; omega); rintro e w9 ⟨rfl, v9, g9, s9⟩; have t9 := (t8.alloc _).trans s9; have y2 : w9.cell? ⟨hw, 0, none⟩ = some (.pointer (some ⟨p, 0, none⟩)) ∧ w9.cell? ⟨hl, 2, none⟩ = some (.slice (some ⟨sb, so, none⟩) xs.length sc) ∧ w9.cell? ⟨sb, so + k, none⟩ = some (.int .i64 n) := ⟨(CS.out _ _ t9).1, (CS.out _ _ t9).2.1, (CS.out _ _ t9).2.2⟩))
  have G9 := Lib.hid g9; have T9 := Lib.hid t9
  clear g9 t9 s9 y2 y3 k8 t8
  go_wp2
  go_end0
  refine ⟨rfl, v9, ?_, T9.out⟩
  have := G9.out
  simpa [manyL] using this

end Go.Proofs.Ytjdbmlifekghfaa
