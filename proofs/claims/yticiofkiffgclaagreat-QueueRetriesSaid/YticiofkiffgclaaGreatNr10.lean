/-
  Cue, Cuf, Cug, Rtxa in one text.
-/
import Derived.Test.YticiofkiffgclaaGreatNr9
import Derived.Test.YticiofkiffgclaaGreatNr7
import Derived.Test.YticiofkiffgclaaGreatRows
import Derived.Test.YticiofkiffgclaaGreatNr6
import Derived.LoopTactic
import Derived.Deep.QuietTactic
import Derived.BigQuiet
import Derived.RegionTactic
import Derived.Test.YticiofkiffgclaaGreatNr4
import Derived.Deep.RegionLaw
namespace Go.Proofs.YticiofkiffgclaaGreat
set_option linter.unusedVariables false
open Go.RowKit

variable {w w' : World} {B h : Nat} {V : Value} {l : List Cu}

theorem Cc.hit {T e : TypeId} (a : Cc T e w B h V l) {i : Nat} {x : Cu} (hx : l[i]? = some x) : ∃ g c, V = .slice (some ⟨g, 0, none⟩) l.length c ∧ w.cell? ⟨h, 0, none⟩ = some (.slice (some ⟨g, 0, none⟩) l.length c) ∧
    (w.cell? ⟨g, i * 3, none⟩ = some (.string x.nm) ∧ w.cell? ⟨g, i * 3 + 1, none⟩ = some (.int .i64 x.la) ∧ w.cell? ⟨g, i * 3 + 2, none⟩ = some (.int .i64 x.op)) ∧
    (w.frozen? ⟨g, i * 3, none⟩ = false ∧ w.frozen? ⟨g, i * 3 + 1, none⟩ = false ∧ w.frozen? ⟨g, i * 3 + 2, none⟩ = false) := by
  obtain ⟨u, c, e⟩ := a.shape
  have o1 := a.own
  have v1 := a.cell.1
  rw [e] at o1 v1
  obtain ⟨g, rfl, hgc⟩ := o1.at hx
  exact ⟨g, c, e, v1, o1.three hx, o1.threeF hx⟩

set_option maxHeartbeats 2000000 in
set_option maxRecDepth 100000 in
theorem copn_any (a : Cc cuT cuE w B h V l) (ok : OkC l) (n : ByteArray) (nx : Int) : Calls Tryz.prog 94 #[.pointer (some ⟨h, 0, none⟩), .string n, .int .i64 nx] w (ChgPost w B h V cuT cuE (.int .i64 (opnE l n nx)) (opnL l n nx)) := by
  have FD := Lib.hid (cfind_any a ok n)
  have A := Lib.hid a; have OK := Lib.hid ok
  cases hp : plc l n with
  | none =>
    have e1 : opnE l n nx = 4 := by rw [opnE, getC_none hp]
    have e2 : opnL l n nx = l := by rw [opnL, hp]
    rw [e1, e2]
    rw [hp] at FD
    simp only [Option.isSome_none] at FD
    clear a ok hp e1 e2
    go_enter Tryz.func94, Tryz.ntmps94
    go_wp2_with (go_at_call 134; refine FD.out.mono ?_; rintro e w2 ⟨rfl, k2⟩)
    go_ret
    exact ⟨rfl, V, A.out.keep k2, Stp.ofK k2⟩
  | some i =>
    obtain ⟨x, hx, hxn⟩ := plc_some hp
    have hg := getC_plc hp hx
    have hop := ok.op0 x (List.mem_of_getElem? hx)
    have few := ok.few
    have hil : i < l.length := (List.getElem?_eq_some_iff.1 hx).1
    have x2 : (i : Int) < (l.length : Int) := by omega
    rw [hp, plc_ahd ok.nms hp] at FD
    simp only [Option.isSome_some] at FD
    have HX := Lib.hid hx; have HXN := Lib.hid hxn
    have hE : opnE l n nx = if 0 < x.op then 7 else if nx ≤ x.la then 1 else 0 := by rw [opnE, hg]
    have hL : opnL l n nx = if 0 < x.op ∨ nx ≤ x.la then l else l.set i ⟨n, x.la, nx⟩ := by rw [opnL, hp, hg]
    rw [hE, hL]
    clear hp hg hE hL hx hxn a ok
    by_cases h1 : 0 < x.op
    · rw [if_pos h1, if_pos (.inl h1)]
      have b1 : (x.op == 0) = false := by rw [beq_eq_false_iff_ne]; omega
      obtain ⟨y, hy⟩ : ∃ y, y = x.op := ⟨_, rfl⟩
      have HY := Lib.hid hy
      rw [← hy] at b1
      clear h1 hop hy
      go_enter Tryz.func94, Tryz.ntmps94
      go_wp2_with (go_at_call 134; refine FD.out.mono ?_; rintro e w2 ⟨rfl, k2⟩; obtain ⟨g, c, hv, c0, ⟨d0, d1, d2⟩, -⟩ := (A.out.keep k2).hit HX.out; rw [← HY.out] at d2; clear hv)
      go_ret
      exact ⟨rfl, V, A.out.keep k2, Stp.ofK k2⟩
    · have h10 : x.op = 0 := by omega
      by_cases h2 : nx ≤ x.la
      · rw [if_neg h1, if_pos h2, if_pos (.inr h2)]
        have H10 := Lib.hid h10
        obtain ⟨y, hy⟩ : ∃ y, y = x.la := ⟨_, rfl⟩
        have HY := Lib.hid hy
        rw [← hy] at h2
        clear h1 hop hy h10
        go_enter Tryz.func94, Tryz.ntmps94
        go_wp2_with (go_at_call 134; refine FD.out.mono ?_; rintro e w2 ⟨rfl, k2⟩; obtain ⟨g, c, hv, c0, ⟨d0, d1, d2⟩, -⟩ := (A.out.keep k2).hit HX.out; rw [H10.out] at d2; rw [← HY.out] at d1; clear hv)
        go_ret
        exact ⟨rfl, V, A.out.keep k2, Stp.ofK k2⟩
      · rw [if_neg h1, if_neg h2, if_neg (by omega)]
        have H10 := Lib.hid h10
        obtain ⟨y, hy⟩ : ∃ y, y = x.la := ⟨_, rfl⟩
        have HY := Lib.hid hy
        rw [← hy] at h2
        have h3 : y < nx := by omega
        clear h1 hop hy h10
        go_enter Tryz.func94, Tryz.ntmps94
        go_wp2_with fail
        refine FD.out.mono ?_
        rintro e w2 ⟨rfl, k2⟩
        have a2 := A.out.keep k2
        obtain ⟨g, c, hv, c0, ⟨d0, d1, d2⟩, ⟨f0, f1, f2⟩⟩ := a2.hit HX.out
        have o2 := a2.own
        rw [hv] at o2
        have o3 := o2.set1 (y := ⟨n, x.la, nx⟩) HX.out (j := 2) (by decide) (u := .int .i64 nx) (by show [_, _, _] = List.set [_, _, _] 2 _; rw [HXN.out]; rfl)
        rw [← hv] at o3
        obtain ⟨a3, s3⟩ := a2.turn ((Fo.refl _ w2).setCell (p := ⟨g, i * 3 + 2, none⟩) (.inl (by rw [hv]; rfl)) (.int .i64 nx)) o3
        have A3 := Lib.hid a3; have S3 := Lib.hid (s3.afterK k2)
        rw [H10.out] at d2
        rw [← HY.out] at d1
        clear a2 o2 o3 a3 s3 hv k2
        go_wp2
        go_ret
        rw [HY.out]
        exact ⟨rfl, V, A3.out, S3.out⟩

end Go.Proofs.YticiofkiffgclaaGreat

namespace Go.Proofs.YticiofkiffgclaaGreat
set_option linter.unusedVariables false
open Go.RowKit

variable {w w' : World} {B h : Nat} {V : Value} {l : List Cu}

set_option maxHeartbeats 2000000 in
set_option maxRecDepth 100000 in
theorem cfin_any (a : Cc cuT cuE w B h V l) (ok : OkC l) (n : ByteArray) : Calls Tryz.prog 97 #[.pointer (some ⟨h, 0, none⟩), .string n] w (ChgPost w B h V cuT cuE (.tuple #[.int .i64 (finN l n), .int .i64 (finE l n)]) (finL l n)) := by
  have FD := Lib.hid (cfind_any a ok n)
  have A := Lib.hid a; have OK := Lib.hid ok
  cases hp : plc l n with
  | none =>
    have e0 : finN l n = 0 := by rw [finN, getC_none hp]
    have e1 : finE l n = 4 := by rw [finE, getC_none hp]
    have e2 : finL l n = l := by rw [finL, hp]
    rw [e0, e1, e2]
    rw [hp] at FD
    simp only [Option.isSome_none] at FD
    clear a ok hp e0 e1 e2
    go_enter Tryz.func97, Tryz.ntmps97
    go_wp2_with (go_at_call 134; refine FD.out.mono ?_; rintro e w2 ⟨rfl, k2⟩)
    go_ret2
    exact ⟨rfl, V, A.out.keep k2, Stp.ofK k2⟩
  | some i =>
    obtain ⟨x, hx, hxn⟩ := plc_some hp
    have hg := getC_plc hp hx
    have few := ok.few
    have hil : i < l.length := (List.getElem?_eq_some_iff.1 hx).1
    have x2 : (i : Int) < (l.length : Int) := by omega
    rw [hp, plc_ahd ok.nms hp] at FD
    simp only [Option.isSome_some] at FD
    have HX := Lib.hid hx; have HXN := Lib.hid hxn
    have hN : finN l n = x.op := by rw [finN, hg]
    have hE : finE l n = if x.op = 0 then 7 else 0 := by rw [finE, hg]
    have hL : finL l n = if x.op = 0 then l else l.set i ⟨n, x.op, 0⟩ := by rw [finL, hp, hg]
    rw [hN, hE, hL]
    clear hp hg hN hE hL hx hxn a ok
    by_cases h1 : x.op = 0
    · rw [if_pos h1, if_pos h1]
      have H1 := Lib.hid h1
      rw [h1]
      clear h1
      go_enter Tryz.func97, Tryz.ntmps97
      go_wp2_with (go_at_call 134; refine FD.out.mono ?_; rintro e w2 ⟨rfl, k2⟩; obtain ⟨g, c, hv, c0, ⟨d0, d1, d2⟩, -⟩ := (A.out.keep k2).hit HX.out; rw [H1.out] at d2; clear hv)
      go_ret2
      exact ⟨rfl, V, A.out.keep k2, Stp.ofK k2⟩
    · rw [if_neg h1, if_neg h1]
      have b1 : (x.op == 0) = false := by rw [beq_eq_false_iff_ne]; exact h1
      obtain ⟨y, hy⟩ : ∃ y, y = x.op := ⟨_, rfl⟩
      have HY := Lib.hid hy
      rw [← hy] at b1 ⊢
      clear h1 hy
      go_enter Tryz.func97, Tryz.ntmps97
      go_wp2_with fail
      refine FD.out.mono ?_
      rintro e w2 ⟨rfl, k2⟩
      have a2 := A.out.keep k2
      obtain ⟨g, c, hv, c0, ⟨d0, d1, d2⟩, ⟨f0, f1, f2⟩⟩ := a2.hit HX.out
      have o2 := a2.own
      rw [hv] at o2
      have o3 := o2.put i hil ⟨n, y, 0⟩
      rw [← hv] at o3
      obtain ⟨a3, s3⟩ := a2.turn (putAll_fo (g := g) (encCu.cs ⟨n, y, 0⟩).toList w2 (i * encCu.k) (Fo.refl _ w2) (.inl (by rw [hv]; rfl))) o3
      have A3 := Lib.hid a3; have S3 := Lib.hid (s3.afterK k2)
      rw [← HY.out] at d2
      clear a2 o2 o3 a3 s3 hv k2
      go_wp2
      go_ret2
      exact ⟨rfl, V, A3.out, S3.out⟩

end Go.Proofs.YticiofkiffgclaaGreat

namespace Go.Proofs.YticiofkiffgclaaGreat
set_option linter.unusedVariables false
open Go.RowKit

variable {w0 w w' : World} {h : Nat} {l : List Cu}

def nA : ByteArray := ⟨#[97]⟩
end Go.Proofs.YticiofkiffgclaaGreat

namespace Go.Proofs.YticiofkiffgclaaGreat
set_option linter.unusedVariables false
open Go.RowKit

theorem Tryz.infoCu_r : (Tryz.prog.info? 173).map (fun i => (i.zero, i.size, i.bytes)) = some (some (.agg #[.int .i64 0, .int .i64 0, .int .i64 0, .string ⟨#[]⟩, .int .i64 0, .int .i64 0, .int .u8 0, .int .i64 0, .string ⟨#[]⟩]), 9, 88) := by kernel_rfl

def InsPost_r (w : World) (B : Nat) (v : Value) (l : List It) (i : Nat) (x : It) (e : Ending) (w' : World) : Prop :=
  ∃ v', e = .returned v' ∧ OwnK encIt w' B 173 v' (l.take i ++ x :: l.drop i) ∧ Fo (fun k => v.ownBlock = some k) w w' ∧ ∀ k, v'.ownBlock = some k → v.ownBlock = some k ∨ w.heap.size ≤ k

theorem src_x_r {w : World} {xb : Nat} {x : It} (hx : w.heap[xb]? = some (.cells (encIt.cs x) 173 (0, 0))) : Src Tryz.prog 9 115 (.slice (some ⟨xb, 0, none⟩) 1 1) 1 (encIt.cs x).toList w := by
  have := (rdK_one (E := encIt) (x := x) hx).src (P := Tryz.prog) (tx := 115) Tryz.underlying115
  rw [kcs_single] at this
  exact this

set_option maxHeartbeats 1000000 in
set_option maxRecDepth 100000 in
theorem rinsert_end (v : Value) (l : List It) (x : It) (xb : Nat) (w : World) (B : Nat) (h : OwnK encIt w B 173 v l) (hB : B ≤ w.heap.size) (hx : w.heap[xb]? = some (.cells (encIt.cs x) 173 (0, 0))) (hl : l.length ≤ 1000) :
    Calls Tryz.prog 157 #[v, .int .i64 l.length, .slice (some ⟨xb, 0, none⟩) 1 1] w (InsPost_r w B v l l.length x) := by
  obtain ⟨i0, hi0, hz0, hz1, hz2⟩ := info_parts Tryz.infoCu_r
  have SRC := Lib.hid (src_x_r hx)
  have H := Lib.hid h
  have fin : ∀ v2 w2, w2.ownsRow B 173 9 v2 (l.length + 1) (kcs encIt l ++ (encIt.cs x).toList) → w.grownBy w2 v.ownBlock → (v2.ownBlock = v.ownBlock ∨ ∃ g, v2.ownBlock = some g ∧ w.heap.size ≤ g) → InsPost_r w B v l l.length x (.returned v2) w2 := by
    intro v2 w2 ho hg hp
    refine ⟨v2, rfl, ?_, (Fo.refl _ w).grown hg (fun k hk => .inl hk), fun k hk => ?_⟩
    · rw [List.take_length, List.drop_length]; exact ownK_snoc ho
    · rcases hp with hp | ⟨g, hg, hgs⟩
      · exact .inl (by rw [← hp]; exact hk)
      · rw [hg] at hk; cases hk; exact .inr hgs
  have FIN := Lib.hid fin
  rcases h.2 with ⟨rfl, h0⟩ | ⟨g, cap, cur, rfl, _, _, hnc, _, _, _⟩
  · obtain rfl : l = [] := List.eq_nil_of_length_eq_zero h0
    clear h hx fin
    simp only [List.length_nil] at *
    go_enter Tryz.func157, Tryz.ntmps157
    go_wp2_with (at_builtin; refine wpList_append_all _ rfl (.tmp 23) (.tmp 24) 115 115 rfl B 173 i0 _ 9 88 Tryz.underlying115 hi0 hz0 hz1 hz2 rfl (.slice none 0 0) 0 [] rfl H.out (.slice (some ⟨xb, 0, none⟩) 1 1) 1 (encIt.cs x).toList rfl SRC.out ?b1 ?b2 hB ?next)
    case b1 => unfold maxLen; omega
    case b2 => omega
    case next =>
      intro v2 w2 hown _ hgrow hpl
      have F := Lib.hid (FIN.out v2 w2 hown hgrow hpl)
      clear hown hgrow hpl
      go_wp2
      go_ret
      exact F.out
  · clear h hx fin
    by_cases hcl : cap = l.length
    · subst hcl
      go_enter Tryz.func157, Tryz.ntmps157
      go_wp2_with (at_builtin; refine wpList_append_all _ rfl (.tmp 23) (.tmp 24) 115 115 rfl B 173 i0 _ 9 88 Tryz.underlying115 hi0 hz0 hz1 hz2 rfl (.slice (some ⟨g, 0, none⟩) l.length l.length) l.length (kcs encIt l) rfl H.out (.slice (some ⟨xb, 0, none⟩) 1 1) 1 (encIt.cs x).toList rfl SRC.out ?b1 ?b2 hB ?next)
      case b1 => unfold maxLen; omega
      case b2 => omega
      case next =>
        intro v2 w2 hown _ hgrow hpl
        have F := Lib.hid (FIN.out v2 w2 hown hgrow hpl)
        clear hown hgrow hpl
        go_wp2
        go_ret
        exact F.out
    · go_enter Tryz.func157, Tryz.ntmps157
      go_wp2_with (at_builtin; refine wpList_append_all _ rfl (.tmp 23) (.tmp 24) 115 115 rfl B 173 i0 _ 9 88 Tryz.underlying115 hi0 hz0 hz1 hz2 rfl (.slice (some ⟨g, 0, none⟩) l.length cap) l.length (kcs encIt l) rfl H.out (.slice (some ⟨xb, 0, none⟩) 1 1) 1 (encIt.cs x).toList rfl SRC.out ?b1 ?b2 hB ?next)
      case b1 => unfold maxLen; omega
      case b2 => omega
      case next =>
        intro v2 w2 hown _ hgrow hpl
        have F := Lib.hid (FIN.out v2 w2 hown hgrow hpl)
        clear hown hgrow hpl
        go_wp2
        go_ret
        exact F.out

end Go.Proofs.YticiofkiffgclaaGreat
