/-
  slices.Insert, slices.Delete, slices.Clone on consumers.
-/
import Derived.Test.YtnoiomaoignndaaCus
import Derived.Test.YtnoiomaoignndaaGkb
import Derived.Deep.RegionLaw
namespace Go.Proofs.Ytnoiomaoignndaa
set_option linter.unusedVariables false
open Go.RowKit

theorem Try.infoCu : (Try.prog.info? 39).map (fun i => (i.zero, i.size, i.bytes)) = some (some (.agg #[.string ⟨#[]⟩, .int .i64 0, .int .i64 0]), 3, 32) := by kernel_rfl

/-- What Insert leaves. -/
def InsPost (w : World) (B : Nat) (v : Value) (l : List Cu) (i : Nat) (x : Cu) (e : Ending) (w' : World) : Prop :=
  ∃ v', e = .returned v' ∧ OwnK encCu w' B 39 v' (l.take i ++ x :: l.drop i) ∧ Fo (fun k => v.ownBlock = some k) w w' ∧ ∀ k, v'.ownBlock = some k → v.ownBlock = some k ∨ w.heap.size ≤ k

theorem ownK_snoc {α : Type} {E : Enc α} {w : World} {B : Nat} {e : TypeId} {v : Value} {l : List α} {x : α} (h : w.ownsRow B e E.k v (l.length + 1) (kcs E l ++ (E.cs x).toList)) : OwnK E w B e v (l ++ [x]) := by
  unfold OwnK
  rw [kcs_append, kcs_single, List.length_append]
  exact h

/-- From a row that is known. -/
theorem ownK_row {α : Type} {E : Enc α} {w : World} {B g cap : Nat} {e : TypeId} {l : List α} {R : List Value} (hg : w.heap[g]? = some (.cells R.toArray e (0, 0))) (hB : B ≤ g) (hl : l.length ≤ cap) (hm : cap ≤ maxLen) (hs : R.length = cap * E.k) (ht : R.take (l.length * E.k) = kcs E l) :
    OwnK E w B e (.slice (some ⟨g, 0, none⟩) l.length cap) l :=
  ⟨kcs_length E l, .inr ⟨g, cap, R.toArray, rfl, hB, hg, hl, hm, by simpa using hs, by simpa using ht⟩⟩

theorem OwnK.row {α : Type} {E : Enc α} {w : World} {B g cap n : Nat} {e : TypeId} {l : List α} (h : OwnK E w B e (.slice (some ⟨g, 0, none⟩) n cap) l) :
    ∃ R : List Value, w.heap[g]? = some (.cells R.toArray e (0, 0)) ∧ B ≤ g ∧ n = l.length ∧ l.length ≤ cap ∧ cap ≤ maxLen ∧ R.length = cap * E.k ∧ R.take (l.length * E.k) = kcs E l := by
  rcases h.2 with ⟨h0, _⟩ | ⟨g', cap', cur, h0, hbg, hg, hnc, hcm, hcs, htk⟩
  · cases h0
  · simp only [Value.slice.injEq, Option.some.injEq, Addr.mk.injEq] at h0
    obtain ⟨⟨rfl, _⟩, rfl, rfl⟩ := h0
    exact ⟨cur.toList, by simpa using hg, hbg, rfl, hnc, hcm, by simpa using hcs, htk⟩

theorem src_x {w : World} {xb : Nat} {x : Cu} (hx : w.heap[xb]? = some (.cells x.cs 39 (0, 0))) : Src Try.prog 3 46 (.slice (some ⟨xb, 0, none⟩) 1 1) 1 x.cs.toList w := by
  have := (rdK_one (E := encCu) (x := x) hx).src (P := Try.prog) (tx := 46) Try.underlying46
  rw [kcs_single] at this
  exact this

set_option maxHeartbeats 1000000 in
set_option maxRecDepth 100000 in
theorem cinsert_end (v : Value) (l : List Cu) (x : Cu) (xb : Nat) (w : World) (B : Nat) (h : OwnK encCu w B 39 v l) (hB : B ≤ w.heap.size) (hx : w.heap[xb]? = some (.cells x.cs 39 (0, 0))) (hl : l.length ≤ 1000) :
    Calls Try.prog 26 #[v, .int .i64 l.length, .slice (some ⟨xb, 0, none⟩) 1 1] w (InsPost w B v l l.length x) := by
  obtain ⟨i0, hi0, hz0, hz1, hz2⟩ := info_parts Try.infoCu
  have SRC := Lib.hid (src_x hx)
  have H := Lib.hid h
  have fin : ∀ v2 w2, w2.ownsRow B 39 3 v2 (l.length + 1) (kcs encCu l ++ x.cs.toList) → w.grownBy w2 v.ownBlock → (v2.ownBlock = v.ownBlock ∨ ∃ g, v2.ownBlock = some g ∧ w.heap.size ≤ g) → InsPost w B v l l.length x (.returned v2) w2 := by
    intro v2 w2 ho hg hp
    refine ⟨v2, rfl, ?_, (Fo.refl _ w).grown hg (fun k hk => .inl hk), fun k hk => ?_⟩
    · rw [List.take_length, List.drop_length]; exact ownK_snoc ho
    · rcases hp with hp | ⟨g, hg, hgs⟩
      · exact .inl (by rw [← hp]; exact hk)
      · rw [hg] at hk; cases hk; exact .inr hgs
  have FIN := Lib.hid fin
  rcases h.2 with ⟨rfl, h0⟩ | ⟨g, cap, cur, rfl, _, _, hnc, _, _, _⟩
  · obtain rfl : l = [] := List.eq_nil_of_length_eq_zero h0
    clear h hx fin
    simp only [List.length_nil] at *
    go_enter Try.func26, Try.ntmps26
    go_wp2_with (at_builtin; refine wpList_append_all _ rfl (.tmp 23) (.tmp 24) 46 46 rfl B 39 i0 _ 3 32 Try.underlying46 hi0 hz0 hz1 hz2 rfl (.slice none 0 0) 0 [] rfl H.out (.slice (some ⟨xb, 0, none⟩) 1 1) 1 x.cs.toList rfl SRC.out ?b1 ?b2 hB ?next)
    case b1 => unfold maxLen; omega
    case b2 => omega
    case next =>
      intro v2 w2 hown _ hgrow hpl
      have F := Lib.hid (FIN.out v2 w2 hown hgrow hpl)
      clear hown hgrow hpl
      go_wp2
      go_ret
      exact F.out
  · clear h hx fin
    by_cases hcl : cap = l.length
    · subst hcl
      go_enter Try.func26, Try.ntmps26
      go_wp2_with (at_builtin; refine wpList_append_all _ rfl (.tmp 23) (.tmp 24) 46 46 rfl B 39 i0 _ 3 32 Try.underlying46 hi0 hz0 hz1 hz2 rfl (.slice (some ⟨g, 0, none⟩) l.length l.length) l.length (kcs encCu l) rfl H.out (.slice (some ⟨xb, 0, none⟩) 1 1) 1 x.cs.toList rfl SRC.out ?b1 ?b2 hB ?next)
      case b1 => unfold maxLen; omega
      case b2 => omega
      case next =>
        intro v2 w2 hown _ hgrow hpl
        have F := Lib.hid (FIN.out v2 w2 hown hgrow hpl)
        clear hown hgrow hpl
        go_wp2
        go_ret
        exact F.out
    · go_enter Try.func26, Try.ntmps26
      go_wp2_with (at_builtin; refine wpList_append_all _ rfl (.tmp 23) (.tmp 24) 46 46 rfl B 39 i0 _ 3 32 Try.underlying46 hi0 hz0 hz1 hz2 rfl (.slice (some ⟨g, 0, none⟩) l.length cap) l.length (kcs encCu l) rfl H.out (.slice (some ⟨xb, 0, none⟩) 1 1) 1 x.cs.toList rfl SRC.out ?b1 ?b2 hB ?next)
      case b1 => unfold maxLen; omega
      case b2 => omega
      case next =>
        intro v2 w2 hown _ hgrow hpl
        have F := Lib.hid (FIN.out v2 w2 hown hgrow hpl)
        clear hown hgrow hpl
        go_wp2
        go_ret
        exact F.out

end Go.Proofs.Ytnoiomaoignndaa
