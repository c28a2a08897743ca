/-
  Slices of int64 that can be read ('RdI'), Ints of carrierref01, what came in as a slice of integers.
-/
import Derived.Test.YtfhdblbiamdplaaTf
import Derived.Deep.QuietTactic
import Derived.BigQuiet
import Derived.ProofKit
import Derived.OpenShut
import Derived.ChangeOld
import Derived.Below
namespace Go.Proofs.Ytfhdblbiamdplaa
open Go.ChangeShapes Go.WideShapes Go.ChangeAt Go.RowKit


/-- The slice v can be read: its elements are the numbers l. -/
def RdI (w : World) (v : Value) (l : List Int) : Prop :=
  ∃ a c, v = .slice a l.length c ∧ l.length ≤ c ∧ c ≤ maxLen ∧ (a = none → c = 0) ∧
    (l ≠ [] → ∃ b o, a = some ⟨b, o, none⟩ ∧ ∀ i, i < l.length → w.cell? ⟨b, o + i, none⟩ = some (.int .i64 (l.getD i 0)))

theorem RdI.kept {w w' : World} {v : Value} {l : List Int} {bs : List Nat} (h : RdI w v l) (hk : Kept w w' bs) (hb : ∀ b, v.ownBlock = some b → b ∉ bs) : RdI w' v l := by
  obtain ⟨a, c, rfl, hc, hm, ha, hl⟩ := h
  refine ⟨a, c, rfl, hc, hm, ha, fun hne => ?_⟩
  obtain ⟨b, o, rfl, hcell⟩ := hl hne
  exact ⟨b, o, rfl, fun i hi => hk.cell (p := ⟨b, o + i, none⟩) (hb b rfl) (hcell i hi)⟩

theorem RdI.keep {w w' : World} {v : Value} {l : List Int} (h : RdI w v l) (hk : Kept w w' []) : RdI w' v l := h.kept hk (by simp)

theorem RdI.nil (w : World) : RdI w (.slice none 0 0) [] := ⟨none, 0, rfl, Nat.le_refl _, by unfold maxLen; omega, fun _ => rfl, fun h => absurd rfl h⟩

theorem RdI.len {w : World} {v : Value} {l : List Int} (h : RdI w v l) : l.length ≤ 9223372036854775807 := by
  obtain ⟨a, c, _, h1, h2, _⟩ := h
  unfold maxLen at h2; omega

theorem retb {a b : Bool} (h : a = b) : Ending.returned (.bool a) = .returned (.bool b) := by rw [h]

theorem ints_no {l m : List Int} {k : Nat} (h1 : k < l.length) (h2 : k < m.length) (h : (l[k] != m[k]) = true) : (l == m) = false := by
  rw [beq_eq_false_iff_ne]
  rintro rfl
  simp at h

theorem ints_step {l m : List Int} {k : Nat} (ht : l.take k = m.take k) (h1 : k < l.length) (h2 : k < m.length) (h : (l[k] != m[k]) = false) : l.take (k + 1) = m.take (k + 1) := by
  rw [List.take_succ_eq_append_getElem h1, List.take_succ_eq_append_getElem h2, ht]
  have : l[k] = m[k] := by simpa using h
  rw [this]

theorem ints_whole {l m : List Int} {k : Nat} (h1 : l.length ≤ k) (h2 : l.length = m.length) (h : l.take k = m.take k) : (l == m) = true := by
  rw [List.take_of_length_le h1, List.take_of_length_le (by omega)] at h
  simpa using h

set_option maxHeartbeats 400000 in
set_option maxRecDepth 100000 in
theorem ints_any (va vb : Value) (l m : List Int) (w : World) (ha : RdI w va l) (hb : RdI w vb m) :
    Calls Try.prog 50 #[va, vb] w fun e w' => e = .returned (.bool (l == m)) ∧ Kept w w' [] := by
  have hlen1 := ha.len; have hlen2 := hb.len
  obtain ⟨a, c, rfl, hc, _, _, hla⟩ := ha
  obtain ⟨b, d, rfl, hd, _, _, hlb⟩ := hb
  by_cases hlen : l.length = m.length
  · by_cases hne : l = []
    · subst hne
      obtain rfl : m = [] := List.eq_nil_of_length_eq_zero (by simpa using hlen.symm)
      clear hla hlb hlen
      go_enter Try.func50, Try.ntmps50
      go_wp2
      go_loop [5] (fun t => t = .int .i64 0) (fun _ => 0)
      case atStart => rfl
      case round =>
        subst hrel
        go_wp2
        go_ret
        exact ⟨retb (by simp), Kept.refl _ _⟩
    · obtain ⟨ab, ao, rfl, hca⟩ := hla hne
      obtain ⟨bb, bo, rfl, hcb⟩ := hlb (by rintro rfl; exact hne (List.eq_nil_of_length_eq_zero (by simpa using hlen)))
      have Hl := Lib.hid hlen
      have h1 : ((l.length : Int) != (m.length : Int)) = false := by simp; omega
      have h2 : m.length ≤ l.length := by omega
      have h3 : l.length ≤ m.length := by omega
      have Ca := Lib.hid hca; have Cb := Lib.hid hcb
      clear hca hcb hla hlb hlen
      go_enter Try.func50, Try.ntmps50
      go_wp2
      go_loopw [5] (fun t wr => ∃ k : Nat, k ≤ l.length ∧ t = .int .i64 k ∧ l.take k = m.take k ∧ ∃ q, wr = w.drewN q) (fun t _ => l.length - (intOf t).toNat)
      case atStart => exact ⟨0, Nat.zero_le _, rfl, rfl, 0, rfl⟩
      case round =>
        obtain ⟨k, hk, rfl, heq, q, rfl⟩ := hrel
        have He := Lib.hid heq; clear heq
        by_cases hlt : k < l.length
        · have c1 := Ca.out k hlt
          have c2 := Cb.out k (by omega)
          have hltm : k < m.length := by omega
          have x1 : (k : Int) < (l.length : Int) := by omega
          have x2 : (k : Int) < (m.length : Int) := by omega
          go_wp2
          go_quiet (fail)
          go_wp2
          · go_ret
            exact ⟨retb (ints_no hlt hltm (by assumption)).symm, ((Kept.refl w []).drewN _).drewN _⟩
          · go_roundw
            case rel => exact ⟨k + 1, by omega, by go_num, ints_step He.out hlt hltm (by assumption), q + nq, rfl⟩
            case measure => simp [intOf]; omega
        · have x1 : ¬ (k : Int) < (l.length : Int) := by omega
          have Hf := Lib.hid (ints_whole (by omega) Hl.out He.out)
          go_wp2
          go_ret
          exact ⟨retb Hf.out.symm, (Kept.refl w []).drewN _⟩
  · have h0 : (l == m) = false := by rw [beq_eq_false_iff_ne]; rintro rfl; exact hlen rfl
    have h1 : ((l.length : Int) != (m.length : Int)) = true := by rw [bne_iff_ne]; omega
    have H0 := Lib.hid h0; clear h0 hla hlb
    go_enter Try.func50, Try.ntmps50
    go_wp2
    go_ret
    exact ⟨retb (by rw [H0.out]), Kept.refl _ _⟩

set_option maxHeartbeats 400000 in

/-- What the walk is told of a slice of integers that came in. -/
def IsRow (k : IntKind) (w : World) (a : Option Addr) (len cap : Nat) (zs : List Int) : Prop :=
  (a = none ∧ len = 0 ∧ cap = 0 ∧ zs = []) ∨
  ∃ x, a = some x ∧ len ≤ cap ∧ cap ≤ maxLen ∧ zs.length = cap ∧ (∀ i, i < zs.length → w.cell? (x.add i) = some (.int k (zs.getD i 0))) ∧ ∀ n ∈ zs, (Lit.int k n).wf = true

/-- The numbers of such a slice. -/
theorem isRow_rdI {w : World} {a : Option Addr} {len cap : Nat} {zs : List Int} (h : IsRow .i64 w a len cap zs) : ∃ l : List Int, l.length = len ∧ RdI w (.slice a len cap) l := by
  rcases h with ⟨rfl, rfl, rfl, rfl⟩ | ⟨x, rfl, hl, hm, hz, hcell, hwz⟩
  · exact ⟨[], rfl, RdI.nil w⟩
  · have hlen : (zs.take len).length = len := by simp; omega
    refine ⟨zs.take len, hlen, some x, cap, by rw [hlen], by omega, hm, by simp, fun hne => ?_⟩
    have hpos : 0 < len := by rw [← hlen]; exact List.length_pos_iff.2 hne
    obtain ⟨b, off, spot⟩ := x
    have h0 := hcell 0 (by omega)
    have hspot : spot = none := by simpa [Addr.add] using World.cell?_spot h0
    subst hspot
    refine ⟨b, off, rfl, fun i hi => ?_⟩
    rw [hlen] at hi
    have hc := hcell i (by omega)
    rw [Addr.add_lit] at hc
    rw [hc]
    congr 2
    simp [List.getD, hi]

end Go.Proofs.Ytfhdblbiamdplaa
