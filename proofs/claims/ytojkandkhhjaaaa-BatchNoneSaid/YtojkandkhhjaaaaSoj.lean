/-
  slices.SortStableFunc of events by their numbers, at any slice of the call's own.
-/
import Derived.Test.YtojkandkhhjaaaaSoi
import Derived.Test.YtojkandkhhjaaaaFow
namespace Go.Proofs.Ytojkandkhhjaaaa
open Go.Shelf Go.RowKit Go.Lib Go.Sort

theorem Fo.ofKept1 {w w' : World} {g : Nat} (h : Kept w w' [g]) : Fo (fun k => k = g) w w' := ⟨h.os, h.tape, h.output, h.size, fun k hk hn => h.block k hk (by simpa using hn)⟩

set_option maxHeartbeats 1000000 in
theorem ins_nil (W : World) : Calls Try.prog 51 #[.slice none 0 0, .int .i64 0, .int .i64 0, .func (.func 31) #[] #[]] W fun e w' => e = .returned (.tuple #[]) ∧ w' = W := by
  go_enter Try.func51, Try.ntmps51
  go_wp2
  go_loopg [8] 0 (fun kx s8 wr => s8 = .int .i64 1 ∧ wr = W)
  case atStart => exact ⟨rfl, rfl⟩
  case round =>
    obtain ⟨rfl, rfl⟩ := hrel
    go_wp2
    go_end0
    exact ⟨rfl, rfl⟩

set_option maxHeartbeats 1000000 in
theorem stable_nil (W : World) : Calls Try.prog 46 #[.slice none 0 0, .int .i64 0, .func (.func 31) #[] #[]] W fun e w' => e = .returned (.tuple #[]) ∧ w' = W := by
  go_enter Try.func46, Try.ntmps46
  go_wp2
  go_loopg [7, 8] 0 (fun kx s7 s8 wr => s7 = .int .i64 0 ∧ s8 = .int .i64 20 ∧ wr = W)
  case atStart => exact ⟨rfl, rfl, rfl⟩
  case round =>
    obtain ⟨rfl, rfl, rfl⟩ := hrel
    go_wp2_with (go_at_call 51; refine (ins_nil _).mono ?_; rintro e w' ⟨rfl, rfl⟩)
    go_loopg [6] 0 (fun kx s6 wr => s6 = .int .i64 20 ∧ wr = w')
    case atStart => exact ⟨rfl, rfl⟩
    case round =>
      obtain ⟨rfl, rfl⟩ := hrel
      go_wp2
      go_end0
      exact ⟨rfl, rfl⟩

set_option maxHeartbeats 1000000 in
theorem sort_any {W : World} {base : Nat} {V : Value} {l : List Ev} (h : OwnE W base 42 V l) (hl : l.length < 1152921504606846976) :
    Calls Try.prog 30 #[V, .func (.func 31) #[] #[]] W fun e w' => e = .returned (.tuple #[]) ∧ OwnE w' base 42 V (srt byId l) ∧ Fo (fun k => V.ownBlock = some k) W w' := by
  rcases h.2 with ⟨rfl, hn⟩ | ⟨g, cap, cur, rfl, hb, hg, hnc, hcm, hcs, ht⟩
  · have : l = [] := List.eq_nil_of_length_eq_zero hn
    subst this
    go_enter Try.func30, Try.ntmps30
    go_wp2_with (go_at_call 46; refine (stable_nil _).mono ?_; rintro e w' ⟨rfl, rfl⟩)
    go_end0
    exact ⟨rfl, h, Fo.refl _ _⟩
  · have R := own_row h
    have hc := stable_any slE R tot_byId cmpE_lt 31 #[] (enters_of Try.func31 (by kernel_rfl) rfl) (cmpLays _ _ _ _) cap (insE R cap) l.toArray W rfl (SWK.start R.hH) (by simpa using hl) l.length (by simp)
    have HC := Lib.hid hc
    have H := Lib.hid h
    clear hc h hb hg hnc hcm hcs ht R
    generalize hn : l.length = n at HC
    have HN := Lib.hid hn
    clear hn hl
    go_enter Try.func30, Try.ntmps30
    go_wp2_with (go_at_call 46; refine HC.out.mono ?_; rintro e w' ⟨rfl, d', hd', S'⟩)
    go_end0
    have hn := HN.out
    subst hn
    have hs : d'.size = l.length := by rw [← Array.length_toList, hd', srt_length]
    obtain ⟨r1, r2⟩ := own_sorted H.out hs S'
    rw [hd'] at r1
    refine ⟨rfl, r1, ?_⟩
    have := Fo.ofKept1 r2
    exact this.mono (fun k hk => by subst hk; rfl)

end Go.Proofs.Ytojkandkhhjaaaa
