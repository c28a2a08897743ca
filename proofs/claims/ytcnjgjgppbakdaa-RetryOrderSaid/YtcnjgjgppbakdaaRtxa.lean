/-
  slices.Insert, slices.Delete, slices.Clone on elements of another kind.
-/
import Derived.Test.YtcnjgjgppbakdaaRows
import Derived.Test.YtcnjgjgppbakdaaIta
import Derived.LoopTactic
import Derived.Deep.QuietTactic
import Derived.BigQuiet
import Derived.RegionTactic
import Derived.Test.YtcnjgjgppbakdaaGkd
import Derived.Deep.RegionLaw
namespace Go.Proofs.Ytcnjgjgppbakdaa
set_option linter.unusedVariables false
open Go.RowKit

theorem Try.infoCu_r : (Try.prog.info? 49).map (fun i => (i.zero, i.size, i.bytes)) = some (some (.agg #[.int .i64 0, .int .i64 0, .int .i64 0, .string ⟨#[]⟩, .int .i64 0, .int .i64 0, .int .u8 0, .int .i64 0, .string ⟨#[]⟩]), 9, 88) := by kernel_rfl

/-- What Insert leaves. -/
def InsPost_r (w : World) (B : Nat) (v : Value) (l : List It) (i : Nat) (x : It) (e : Ending) (w' : World) : Prop :=
  ∃ v', e = .returned v' ∧ OwnK encIt w' B 49 v' (l.take i ++ x :: l.drop i) ∧ Fo (fun k => v.ownBlock = some k) w w' ∧ ∀ k, v'.ownBlock = some k → v.ownBlock = some k ∨ w.heap.size ≤ k

theorem src_x_r {w : World} {xb : Nat} {x : It} (hx : w.heap[xb]? = some (.cells (encIt.cs x) 49 (0, 0))) : Src Try.prog 9 45 (.slice (some ⟨xb, 0, none⟩) 1 1) 1 (encIt.cs x).toList w := by
  have := (rdK_one (E := encIt) (x := x) hx).src (P := Try.prog) (tx := 45) Try.underlying45
  rw [kcs_single] at this
  exact this

set_option maxHeartbeats 1000000 in
set_option maxRecDepth 100000 in
theorem rinsert_end (v : Value) (l : List It) (x : It) (xb : Nat) (w : World) (B : Nat) (h : OwnK encIt w B 49 v l) (hB : B ≤ w.heap.size) (hx : w.heap[xb]? = some (.cells (encIt.cs x) 49 (0, 0))) (hl : l.length ≤ 1000) :
    Calls Try.prog 27 #[v, .int .i64 l.length, .slice (some ⟨xb, 0, none⟩) 1 1] w (InsPost_r w B v l l.length x) := by
  obtain ⟨i0, hi0, hz0, hz1, hz2⟩ := info_parts Try.infoCu_r
  have SRC := Lib.hid (src_x_r hx)
  have H := Lib.hid h
  have fin : ∀ v2 w2, w2.ownsRow B 49 9 v2 (l.length + 1) (kcs encIt l ++ (encIt.cs x).toList) → w.grownBy w2 v.ownBlock → (v2.ownBlock = v.ownBlock ∨ ∃ g, v2.ownBlock = some g ∧ w.heap.size ≤ g) → InsPost_r w B v l l.length x (.returned v2) w2 := by
    intro v2 w2 ho hg hp
    refine ⟨v2, rfl, ?_, (Fo.refl _ w).grown hg (fun k hk => .inl hk), fun k hk => ?_⟩
    · rw [List.take_length, List.drop_length]; exact ownK_snoc ho
    · rcases hp with hp | ⟨g, hg, hgs⟩
      · exact .inl (by rw [← hp]; exact hk)
      · rw [hg] at hk; cases hk; exact .inr hgs
  have FIN := Lib.hid fin
  rcases h.2 with ⟨rfl, h0⟩ | ⟨g, cap, cur, rfl, _, _, hnc, _, _, _⟩
  · obtain rfl : l = [] := List.eq_nil_of_length_eq_zero h0
    clear h hx fin
    simp only [List.length_nil] at *
    go_enter Try.func27, Try.ntmps27
    go_wp2_with (at_builtin; refine wpList_append_all _ rfl (.tmp 23) (.tmp 24) 45 45 rfl B 49 i0 _ 9 88 Try.underlying45 hi0 hz0 hz1 hz2 rfl (.slice none 0 0) 0 [] rfl H.out (.slice (some ⟨xb, 0, none⟩) 1 1) 1 (encIt.cs x).toList rfl SRC.out ?b1 ?b2 hB ?next)
    case b1 => unfold maxLen; omega
    case b2 => omega
    case next =>
      intro v2 w2 hown _ hgrow hpl
      have F := Lib.hid (FIN.out v2 w2 hown hgrow hpl)
      clear hown hgrow hpl
      go_wp2
      go_ret
      exact F.out
  · clear h hx fin
    by_cases hcl : cap = l.length
    · subst hcl
      go_enter Try.func27, Try.ntmps27
      go_wp2_with (at_builtin; refine wpList_append_all _ rfl (.tmp 23) (.tmp 24) 45 45 rfl B 49 i0 _ 9 88 Try.underlying45 hi0 hz0 hz1 hz2 rfl (.slice (some ⟨g, 0, none⟩) l.length l.length) l.length (kcs encIt l) rfl H.out (.slice (some ⟨xb, 0, none⟩) 1 1) 1 (encIt.cs x).toList rfl SRC.out ?b1 ?b2 hB ?next)
      case b1 => unfold maxLen; omega
      case b2 => omega
      case next =>
        intro v2 w2 hown _ hgrow hpl
        have F := Lib.hid (FIN.out v2 w2 hown hgrow hpl)
        clear hown hgrow hpl
        go_wp2
        go_ret
        exact F.out
    · go_enter Try.func27, Try.ntmps27
      go_wp2_with (at_builtin; refine wpList_append_all _ rfl (.tmp 23) (.tmp 24) 45 45 rfl B 49 i0 _ 9 88 Try.underlying45 hi0 hz0 hz1 hz2 rfl (.slice (some ⟨g, 0, none⟩) l.length cap) l.length (kcs encIt l) rfl H.out (.slice (some ⟨xb, 0, none⟩) 1 1) 1 (encIt.cs x).toList rfl SRC.out ?b1 ?b2 hB ?next)
      case b1 => unfold maxLen; omega
      case b2 => omega
      case next =>
        intro v2 w2 hown _ hgrow hpl
        have F := Lib.hid (FIN.out v2 w2 hown hgrow hpl)
        clear hown hgrow hpl
        go_wp2
        go_ret
        exact F.out

end Go.Proofs.Ytcnjgjgppbakdaa
