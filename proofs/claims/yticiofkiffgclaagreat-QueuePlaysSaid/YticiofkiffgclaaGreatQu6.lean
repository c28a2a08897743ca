/-
 Cqr, Rtxa, Rtxb, Rtxc in one text.
-/
import Derived.Test.YticiofkiffgclaaGreatQu0
import Derived.Test.YticiofkiffgclaaGreatQu5
import Derived.Test.YticiofkiffgclaaGreatRows
import Derived.Test.YticiofkiffgclaaGreatQu2
import Derived.LoopTactic
import Derived.Deep.QuietTactic
import Derived.BigQuiet
import Derived.RegionTactic
import Derived.Test.YticiofkiffgclaaGreatQu1
import Derived.Deep.RegionLaw
set_option linter.unusedVariables false
set_option maxHeartbeats 16000000
set_option maxRecDepth 100000
namespace Go.Proofs.YticiofkiffgclaaGreat
open Go.RowKit
variable {T : TypeId} {w w' : World} {B h oo : Nat} {RR : List Value} {V : Value} {l : List Cu}
theorem ropn_any (a : Lw encCu T rcE w B h oo RR V l) (ok : OkC l) (n : ByteArray) (nx : Int) : Calls Tryz.prog 120 #[.pointer (some ⟨h, oo, none⟩), .string n, .int .i64 nx] w (ChgK T w B h oo RR V (.int .i64 (opnE l n nx)) (opnL l n nx)) := by
 have few := ok.few
 have FD := iH (yqp a n (by omega))
 have A := iH a
 cases hp : plc l n with
 | none =>
 have e1 : opnE l n nx = 4 := by rw [opnE, xq0 hp]
 have e2 : opnL l n nx = l := by rw [opnL, hp]
 have e3 : fnd l n = -1 := by rw [fnd, hp]
 rw [e1, e2]
 rw [e3] at FD
 clear a ok hp e1 e2 e3
 go_enter Tryz.func120, Tryz.ntmps120
 go_wp2_with (go_at_call 121; refine FD.out.mono ?_; rintro e w2 ⟨rfl, hw⟩; have hw2 := hw.symm; clear hw; subst hw2)
 go_ret
 exact ⟨rfl, V, A.out.self, Stp.refl _ _⟩
 | some i =>
 obtain ⟨x, hx, hxn⟩ := xqV hp
 have hg := yql hp hx
 have hil : i < l.length := (List.getElem?_eq_some_iff.1 hx).1
 have e3 : fnd l n = i := by rw [fnd, hp]
 rw [e3] at FD
 have hE : opnE l n nx = if 0 < x.op then 7 else if nx <= x.la then 1 else 0 := by rw [opnE, hg]
 have hL : opnL l n nx = if 0 < x.op ∨ nx <= x.la then l else l.set i ⟨n, x.la, nx⟩ := by rw [opnL, hp, hg]
 have ST := iH (rset_any a i ⟨n, x.la, nx⟩ hil (by omega))
 obtain ⟨g, c, hv, c0, ⟨d0, d1, d2⟩, -⟩ := a.hit3 hx
 have x4 : ¬ (i : Int) < 0 := by omega
 have z8 : (i : Int) < (l.length : Int) := by omega
 obtain ⟨b0, b1, b2⟩ := x
 simp only [Cu.cs] at *
 rw [hE, hL]
 clear a ok hp hg hE hL hx hxn hv e3
 by_cases h1 : 0 < b2
 ·rw [if_pos h1, if_pos (.inl h1)]
  go_enter Tryz.func120, Tryz.ntmps120
  go_wp2_with (go_at_call 121; refine FD.out.mono ?_; rintro e w2 ⟨rfl, hw⟩; have hw2 := hw.symm; clear hw; subst hw2)
  go_ret
  exact ⟨rfl, V, A.out.self, Stp.refl _ _⟩
 by_cases h2 : nx <= b1
 ·rw [if_neg h1, if_pos h2, if_pos (.inr h2)]
  go_enter Tryz.func120, Tryz.ntmps120
  go_wp2_with (go_at_call 121; refine FD.out.mono ?_; rintro e w2 ⟨rfl, hw⟩; have hw2 := hw.symm; clear hw; subst hw2)
  go_ret
  exact ⟨rfl, V, A.out.self, Stp.refl _ _⟩
 rw [if_neg h1, if_neg h2, if_neg (by omega)]
 go_enter Tryz.func120, Tryz.ntmps120
 go_wp2_with fail
 refine FD.out.mono ?_
 rintro e w2 ⟨rfl, hw⟩
 have hw2 := hw.symm
 clear hw
 subst hw2
 go_wp2_with fail
 refine ST.out.mono ?_
 rintro e w3 ⟨rfl, V', a', s'⟩
 have A' := iH a'; have S' := iH s'
 clear a' s'
 go_wp2
 go_ret
 exact ⟨rfl, V', A'.out, S'.out⟩
theorem rfin_any (a : Lw encCu T rcE w B h oo RR V l) (ok : OkC l) (n : ByteArray) : Calls Tryz.prog 63 #[.pointer (some ⟨h, oo, none⟩), .string n] w (ChgK T w B h oo RR V (.tuple #[.int .i64 (finN l n), .int .i64 (finE l n)]) (finL l n)) := by
 have few := ok.few
 have FD := iH (yqp a n (by omega))
 have A := iH a
 cases hp : plc l n with
 | none =>
 have e0 : finN l n = 0 := by rw [finN, xq0 hp]
 have e1 : finE l n = 4 := by rw [finE, xq0 hp]
 have e2 : finL l n = l := by rw [finL, hp]
 have e3 : fnd l n = -1 := by rw [fnd, hp]
 rw [e0, e1, e2]
 rw [e3] at FD
 clear a ok hp e0 e1 e2 e3
 go_enter Tryz.func63, Tryz.ntmps63
 go_wp2_with (go_at_call 121; refine FD.out.mono ?_; rintro e w2 ⟨rfl, hw⟩; have hw2 := hw.symm; clear hw; subst hw2)
 go_ret2
 exact ⟨rfl, V, A.out.self, Stp.refl _ _⟩
 | some i =>
 obtain ⟨x, hx, hxn⟩ := xqV hp
 have hg := yql hp hx
 have hil : i < l.length := (List.getElem?_eq_some_iff.1 hx).1
 have e3 : fnd l n = i := by rw [fnd, hp]
 rw [e3] at FD
 have hN : finN l n = x.op := by rw [finN, hg]
 have hE : finE l n = if x.op = 0 then 7 else 0 := by rw [finE, hg]
 have hL : finL l n = if x.op = 0 then l else l.set i ⟨n, x.op, 0⟩ := by rw [finL, hp, hg]
 have ST := iH (rset_any a i ⟨n, x.op, 0⟩ hil (by omega))
 obtain ⟨g, c, hv, c0, ⟨d0, d1, d2⟩, -⟩ := a.hit3 hx
 have x4 : ¬ (i : Int) < 0 := by omega
 have z8 : (i : Int) < (l.length : Int) := by omega
 obtain ⟨b0, b1, b2⟩ := x
 simp only [Cu.cs] at *
 rw [hN, hE, hL]
 clear a ok hp hg hN hE hL hx hxn hv e3
 by_cases h1 : b2 = 0
 ·rw [if_pos h1, if_pos h1]
  subst h1
  go_enter Tryz.func63, Tryz.ntmps63
  go_wp2_with (go_at_call 121; refine FD.out.mono ?_; rintro e w2 ⟨rfl, hw⟩; have hw2 := hw.symm; clear hw; subst hw2)
  go_ret2
  exact ⟨rfl, V, A.out.self, Stp.refl _ _⟩
 rw [if_neg h1, if_neg h1]
 have b1' : (b2 == 0) = false := by rw [beq_eq_false_iff_ne]; exact h1
 go_enter Tryz.func63, Tryz.ntmps63
 go_wp2_with fail
 refine FD.out.mono ?_
 rintro e w2 ⟨rfl, hw⟩
 have hw2 := hw.symm
 clear hw
 subst hw2
 go_wp2_with fail
 refine ST.out.mono ?_
 rintro e w3 ⟨rfl, V', a', s'⟩
 have A' := iH a'; have S' := iH s'
 clear a' s'
 go_wp2
 go_ret2
 exact ⟨rfl, V', A'.out, S'.out⟩
theorem Tryz.infoCu_r : (Tryz.prog.info? 173).map (fun i => (i.zero, i.size, i.bytes)) = some (some (.agg #[.int .i64 0, .int .i64 0, .int .i64 0, .string ⟨#[]⟩, .int .i64 0, .int .i64 0, .int .u8 0, .int .i64 0, .string ⟨#[]⟩]), 9, 88) := by kernel_rfl
def InsPost_r (w : World) (B : Nat) (v : Value) (l : List It) (i : Nat) (x : It) (e : Ending) (w' : World) : Prop :=
 ∃ v', e = .returned v' /\ OwnK encIt w' B 173 v' (l.take i ++ x :: l.drop i) /\ Fo (fun k => v.ownBlock = some k) w w' /\ ∀ k, v'.ownBlock = some k -> v.ownBlock = some k ∨ w.heap.size <= k
theorem src_x_r {w : World} {xb : Nat} {x : It} (hx : w.heap[xb]? = some (.cells (encIt.cs x) 173 (0, 0))) : Src Tryz.prog 9 115 (.slice (some ⟨xb, 0, none⟩) 1 1) 1 (encIt.cs x).toList w := by
 have := (rdK_one (E := encIt) (x := x) hx).src (P := Tryz.prog) (tx := 115) Tryz.underlying115
 rw [xqz] at this
 exact this
theorem rinsert_end (v : Value) (l : List It) (x : It) (xb : Nat) (w : World) (B : Nat) (h : OwnK encIt w B 173 v l) (hB : B <= w.heap.size) (hx : w.heap[xb]? = some (.cells (encIt.cs x) 173 (0, 0))) (hl : l.length <= 1000) :
 Calls Tryz.prog 157 #[v, .int .i64 l.length, .slice (some ⟨xb, 0, none⟩) 1 1] w (InsPost_r w B v l l.length x) := by
 obtain ⟨i0, hi0, hz0, hz1, hz2⟩ := info_parts Tryz.infoCu_r
 have SRC := iH (src_x_r hx)
 have H := iH h
 have fin : ∀ v2 w2, w2.ownsRow B 173 9 v2 (l.length + 1) (kcs encIt l ++ (encIt.cs x).toList) -> w.grownBy w2 v.ownBlock -> (v2.ownBlock = v.ownBlock ∨ ∃ g, v2.ownBlock = some g /\ w.heap.size <= g) -> InsPost_r w B v l l.length x (.returned v2) w2 := by
  intro v2 w2 ho hg hp
  refine ⟨v2, rfl, ?_, (Fo.refl _ w).grown hg (fun k hk => .inl hk), fun k hk => ?_⟩
  ·rw [List.take_length, List.drop_length]; exact xqS ho
  rcases hp with hp | ⟨g, hg, hgs⟩
  ·exact .inl (by rw [<- hp]; exact hk)
  rw [hg] at hk; cases hk; exact .inr hgs
 have FIN := iH fin
 rcases h.2 with ⟨rfl, h0⟩ | ⟨g, cap, cur, rfl, _, _, hnc, _, _, _⟩
 ·obtain rfl : l = [] := List.eq_nil_of_length_eq_zero h0
  clear h hx fin
  simp only [List.length_nil] at *
  go_enter Tryz.func157, Tryz.ntmps157
  go_wp2_with (at_builtin; refine xqa _ rfl (.tmp 23) (.tmp 24) 115 115 rfl B 173 i0 _ 9 88 Tryz.underlying115 hi0 hz0 hz1 hz2 rfl (.slice none 0 0) 0 [] rfl H.out (.slice (some ⟨xb, 0, none⟩) 1 1) 1 (encIt.cs x).toList rfl SRC.out ?b1 ?b2 hB ?next)
  case b1 => unfold maxLen; omega
  case b2 => omega
  case next =>
  intro v2 w2 hown _ hgrow hpl
  have F := iH (FIN.out v2 w2 hown hgrow hpl)
  clear hown hgrow hpl
  go_wp2
  go_ret
  exact F.out
 ·clear h hx fin
  by_cases hcl : cap = l.length
  ·subst hcl
   go_enter Tryz.func157, Tryz.ntmps157
   go_wp2_with (at_builtin; refine xqa _ rfl (.tmp 23) (.tmp 24) 115 115 rfl B 173 i0 _ 9 88 Tryz.underlying115 hi0 hz0 hz1 hz2 rfl (.slice (some ⟨g, 0, none⟩) l.length l.length) l.length (kcs encIt l) rfl H.out (.slice (some ⟨xb, 0, none⟩) 1 1) 1 (encIt.cs x).toList rfl SRC.out ?b1 ?b2 hB ?next)
   case b1 => unfold maxLen; omega
   case b2 => omega
   case next =>
   intro v2 w2 hown _ hgrow hpl
   have F := iH (FIN.out v2 w2 hown hgrow hpl)
   clear hown hgrow hpl
   go_wp2
   go_ret
   exact F.out
  go_enter Tryz.func157, Tryz.ntmps157
  go_wp2_with (at_builtin; refine xqa _ rfl (.tmp 23) (.tmp 24) 115 115 rfl B 173 i0 _ 9 88 Tryz.underlying115 hi0 hz0 hz1 hz2 rfl (.slice (some ⟨g, 0, none⟩) l.length cap) l.length (kcs encIt l) rfl H.out (.slice (some ⟨xb, 0, none⟩) 1 1) 1 (encIt.cs x).toList rfl SRC.out ?b1 ?b2 hB ?next)
  case b1 => unfold maxLen; omega
  case b2 => omega
  case next =>
  intro v2 w2 hown _ hgrow hpl
  have F := iH (FIN.out v2 w2 hown hgrow hpl)
  clear hown hgrow hpl
  go_wp2
  go_ret
  exact F.out
theorem rinsert_grow (g n : Nat) (l : List It) (i : Nat) (x : It) (xb : Nat) (w : World) (B : Nat) (hn : n = l.length) (h : OwnK encIt w B 173 (.slice (some ⟨g, 0, none⟩) n n) l) (hB : B <= w.heap.size) (hx : w.heap[xb]? = some (.cells (encIt.cs x) 173 (0, 0))) (hi : i < n) (hl : n <= 1000) :
 Calls Tryz.prog 157 #[.slice (some ⟨g, 0, none⟩) n n, .int .i64 i, .slice (some ⟨xb, 0, none⟩) 1 1] w (InsPost_r w B (.slice (some ⟨g, 0, none⟩) n n) l i x) := by
 obtain ⟨i0, hi0, hz0, hz1, hz2⟩ := info_parts Tryz.infoCu_r
 have hcell : ∀ j u, (kcs encIt l)[j]? = some u -> w.cell? ⟨g, j, none⟩ = some u := fun j u hu => by
  have := World.ownsRow.cells h (g := g) rfl j u hu
  simpa [Addr.add_lit] using this
 have hil : i <= l.length := by omega
 have hold : (Builtin.firstCells i0.size i (.slice (some ⟨g, 0, none⟩) i n)).run Tryz.prog w.drew = .ok (kcs encIt (l.take i)).toArray w.drew := by
  rw [hz1]
  refine run_firstCells_some w.drew 9 i ⟨g, 0, none⟩ i n (kcs encIt (l.take i)) (by rw [xql, List.length_take, Nat.min_eq_left hil]; rfl) (fun j u hj => ?_)
  rw [yqk encIt l i hil, List.getElem?_take] at hj
  split at hj
  ·rw [Addr.add_lit, Nat.zero_add]; exact hcell j u hj
  cases hj
 obtain ⟨G, hG⟩ : ∃ G, G = grownCap w (n + 1) n 173 := ⟨_, rfl⟩
 have hGn : n + 1 <= G := by rw [hG]; exact grownCap_ge w _ _ _
 have hGm : G <= maxLen := by rw [hG]; exact grownCap_le_maxLen w (n + 1) n 173 (by unfold maxLen; omega)
 obtain ⟨R, hRl, hRt, hrz⟩ : ∃ R : List Value, R.length = G * 9 /\ R.take (i * 9) = kcs encIt (l.take i) /\ ∀ ty, (Builtin.append_ #[115, 3] ty #[.slice (some ⟨g, 0, none⟩) i n, .int .i64 ((n : Int) + 1 - (i : Int))]).run Tryz.prog w =
  .ok (.slice (some ⟨w.heap.size, 0, none⟩) (n + 1) G) (w.drew.alloc (.cells R.toArray 173)) := by
  have hik : i + (n + 1 - i) = n + 1 := by omega
  have hkk : (n : Int) + 1 - (i : Int) = ((n + 1 - i : Nat) : Int) := by omega
  have hk3 : (kcs encIt (l.take i)).length = i * 9 := by rw [xql, List.length_take, Nat.min_eq_left hil]; rfl
  refine ⟨kcs encIt (l.take i) ++ (Builtin.zeroCells (Value.agg #[.int .i64 0, .int .i64 0, .int .i64 0, .string ⟨#[]⟩, .int .i64 0, .int .i64 0, .int .u8 0, .int .i64 0, .string ⟨#[]⟩]).cells (n + 1 - i)).toList ++ (Builtin.zeroCells (Value.agg #[.int .i64 0, .int .i64 0, .int .i64 0, .string ⟨#[]⟩, .int .i64 0, .int .i64 0, .int .u8 0, .int .i64 0, .string ⟨#[]⟩]).cells (G - (n + 1))).toList, ?_, ?_, fun ty => ?_⟩
  ·have hzc : (Value.agg #[.int .i64 0, .int .i64 0, .int .i64 0, .string ⟨#[]⟩, .int .i64 0, .int .i64 0, .int .u8 0, .int .i64 0, .string ⟨#[]⟩]).cells.size = 9 := rfl
   simp only [List.length_append, hk3, Array.length_toList, Builtin.zeroCells, Array.size_map, Array.size_range, hzc]
   omega
  ·rw [List.append_assoc]
   exact List.take_left' hk3
  ·have hh := Lib.run_append_grow_zeros w 115 3 ty 173 i0 _ .i64 .i64 Tryz.underlying115 Tryz.underlying3 hi0 hz0 (some ⟨g, 0, none⟩) i n (kcs encIt (l.take i)) hold (n + 1 - i) (by omega) (by omega) (by omega) (by omega) (by rw [hz2]; omega) (by rw [hz2, hik]; exact growslice_fits (by omega) (by omega))
   rw [hik, <- hG] at hh
   rw [hkk, hh]
   congr 3
   apply Array.toList_inj.1
   simp
 have hcx : ∀ j u, (encIt.cs x).toList[j]? = some u -> w.cell? ⟨xb, 0 + j, none⟩ = some u := fun j u hu => by
  rw [cell_of_row _ _ _ _ _ _ hx, Nat.zero_add]
  simpa using hu
 obtain ⟨z, hz⟩ : ∃ z, z = w.heap.size := ⟨_, rfl⟩
 have hxz : xb < z := by rw [hz]; exact xqh hx
 have hgz : g < z := by rw [hz]; exact (h.lt g rfl).2
 obtain ⟨W1, hW1⟩ : ∃ W1, W1 = w.drew.alloc (.cells R.toArray 173) := ⟨_, rfl⟩
 have H1 : W1.heap[z]? = some (.cells R.toArray 173 (0, 0)) := by rw [hW1, hz]; exact heap_alloc_new w.drew _
 have K1 : Kept w W1 [] := by rw [hW1]; exact ((Kept.refl w []).drew).alloc _
 rw [<- hz, <- hW1] at hrz
 have KH1 := iH K1; have HH1 := iH H1; have HZ := iH hz; have CX := iH hcx; have CL := iH hcell; have RT := iH hRt; have RL := iH hRl
 have HN := iH hn; have BB := iH hB; have GM := iH hGm
 have X1 : RowKit.Hid (∀ u ∈ (encIt.cs x).toList, u.oneCell' = true) := iH (encIt.one x)
 have XL : RowKit.Hid ((encIt.cs x).toList.length = 9) := iH (by rw [Array.length_toList]; exact encIt.size x)
 have F1 : RowKit.Hid (i * 9 + 9 <= R.length /\ (n + 1) * 9 <= R.length) := iH (by rw [hRl]; omega)
 obtain ⟨XS, hXS⟩ : ∃ XS, XS = (encIt.cs x).toList := ⟨_, rfl⟩
 have HXS := iH hXS
 obtain ⟨LD, hLD⟩ : ∃ LD, LD = kcs encIt (l.drop i) := ⟨_, rfl⟩
 have HLD := iH hLD
 have LDL : RowKit.Hid (LD.length = (n - i) * 9) := iH (by rw [hLD, xql, List.length_drop, <- hn]; rfl)
 have LD1 : RowKit.Hid (∀ u ∈ LD, u.oneCell' = true) := iH (by rw [hLD]; exact kcs_one encIt _)
 have LDC : RowKit.Hid (∀ j u, LD[j]? = some u -> w.cell? ⟨g, i * 9 + j, none⟩ = some u) := iH (fun j u hj => by
  rw [hLD, yqv encIt l i hil, List.getElem?_drop] at hj
  exact hcell _ u hj)
 rw [<- hXS] at X1 XL CX
 have HG := iH hG
 have hGi : ¬ (G = i) := by omega
 have hGim : ¬ (G = i + 1) := by omega
 have hci : ¬ (n = i) := by omega
 have hw1 : IntKind.i64.wrap ((i : Int) + 1) = (i : Int) + 1 := by rw [IntKind.wrap_i64]; omega
 have hb1 : (0 : Int) <= (i : Int) + 1 := by omega
 have htn : ((i : Int) + 1).toNat = i + 1 := by omega
 have hin : i <= n := by omega
 have hin1 : (i : Int) <= (n : Int) := by omega
 have hz1' : ¬ ((i : Int) = (n : Int)) := by omega
 have HRZ := iH hrz
 clear h hx hold hrz hRl hRt hG hcx hcell hn hz hW1 H1 K1 hB hGm hXS hLD hil
 go_enter Tryz.func157, Tryz.ntmps157
 go_wp2_with (first
  | (at_builtin; refine Lib.wpList_append_run _ rfl _ _ _ _ rfl _ _ rfl rfl _ _ (HRZ.out _) ?_)
  | (refine yqh rfl (.tmp 43) (.tmp 44) 115 115 rfl 173 i0 Tryz.underlying115 hi0 z (i * 9) _ _ ⟨xb, 0, none⟩ 1 1 1 rfl rfl ?hm R 173 HH1.out XS ?hn ?hsrc ?hfit X1.out ?next))
 case hm => exact Nat.min_eq_left (by omega)
 case hn => rw [XL.out, hz1]
 case hsrc => intro j u hu; rw [Addr.add_lit]; exact KH1.out.cell (by simp) (CX.out j u hu)
 case hfit => rw [XL.out]; exact F1.out.1
 case next =>
  intro w2 HG2 HF2
  have L2 : RowKit.Hid ((splice R (i * 9) XS).length = R.length) := iH (length_splice _ _ _ (by rw [XL.out]; exact F1.out.1))
  obtain ⟨R2, hR2⟩ : ∃ R2, R2 = splice R (i * 9) XS := ⟨_, rfl⟩
  rw [<- hR2] at HG2 L2
  have HR2 := iH hR2
  clear hR2
  have LC2 : RowKit.Hid (∀ j u, LD[j]? = some u -> w2.cell? ⟨g, i * 9 + j, none⟩ = some u) := iH (fun j u hj => by
   have h1 := KH1.out.cell (by simp) (LDC.out j u hj)
   rw [World.cell?_of_block (HF2.out.block g (World.block_lt_of_cell? _ _ h1) (by omega))]
   exact h1)
  go_wp2_with fail
  go_region_law (refine yqG rfl (.tmp 50) (.tmp 53) 115 115 rfl 173 i0 Tryz.underlying115 hi0 z ((i + 1) * 9) (n + 1 - (i + 1)) (G - (i + 1)) ⟨g, i * 9, none⟩ (n - i) (n - i) (n - i) (by simp [Act.eval, Act.put]) (by simp [Act.eval, Act.put]) (by rw [show n + 1 - (i + 1) = n - i by omega]; exact Nat.min_self _) R2 173 HG2.out LD (by rw [LDL.out, hz1]) (fun j u hu => by rw [Addr.add_lit]; exact LC2.out j u hu) (by rw [LDL.out, L2.out, RL.out]; omega) LD1.out ?_; intro w3 HG3 HF3)
  go_wp2
  go_ret
  refine ⟨_, rfl, ?_, ?_, fun k hk => .inr (by cases hk; rw [HZ.out]; exact Nat.le_refl _)⟩
  ·have hl2 : (l.take i ++ x :: l.drop i).length = n + 1 := by
    have := HN.out
    simp only [List.length_append, List.length_cons, List.length_take, List.length_drop]
    omega
   have hR3 : (splice R2 ((i + 1) * 9) LD).length = R2.length := length_splice _ _ _ (by rw [LDL.out, L2.out, RL.out]; omega)
   rw [<- hl2]
   refine yqt HG3.out (by have := BB.out; have := HZ.out; omega) (by rw [hl2]; exact hGn) GM.out (by rw [hR3, L2.out, RL.out]; rfl) ?_
   rw [hl2, HR2.out, HN.out, HXS.out, HLD.out]
   exact ins_grow (E := encIt) x (by have := HN.out; omega) (by rw [RL.out, <- HN.out]; show (n + 1) * 9 <= _; omega) RT.out
  have hz := HZ.out
  have f := (Fo.ofKept KH1.out (fun k => k = z)).trans (HF2.out.drew.trans HF3.out)
  exact ⟨f.os, f.tape, f.output, f.size, fun k hk _ => f.block k hk (by omega)⟩
theorem rinsert_shift (g n c : Nat) (l : List It) (i : Nat) (x : It) (xb : Nat) (w : World) (B : Nat) (hn : n = l.length) (h : OwnK encIt w B 173 (.slice (some ⟨g, 0, none⟩) n c) l) (hx : w.heap[xb]? = some (.cells (encIt.cs x) 173 (0, 0))) (hxg : xb ≠ g) (hi : i < n) (hc : n + 1 <= c) (hl : n <= 1000) :
 Calls Tryz.prog 157 #[.slice (some ⟨g, 0, none⟩) n c, .int .i64 i, .slice (some ⟨xb, 0, none⟩) 1 1] w (InsPost_r w B (.slice (some ⟨g, 0, none⟩) n c) l i x) := by
 obtain ⟨i0, hi0, hz0, hz1, hz2⟩ := info_parts Tryz.infoCu_r
 have hcell : ∀ j u, (kcs encIt l)[j]? = some u -> w.cell? ⟨g, j, none⟩ = some u := fun j u hu => by
  have := World.ownsRow.cells h (g := g) rfl j u hu
  simpa [Addr.add_lit] using this
 have hil : i <= l.length := by omega
 obtain ⟨R, hR, hBg, -, hlc, hcm, hRl, hRt⟩ := h.row
 have hcx : ∀ j u, (encIt.cs x).toList[j]? = some u -> w.cell? ⟨xb, 0 + j, none⟩ = some u := fun j u hu => by
  rw [cell_of_row _ _ _ _ _ _ hx, Nat.zero_add]
  simpa using hu
 have hrl3 : R.length = c * 9 := hRl
 have HH1 := iH hR; have CX := iH hcx; have RT := iH hRt; have RL := iH hrl3
 have HN := iH hn; have BG := iH hBg; have CM := iH hcm
 have X1 : RowKit.Hid (∀ u ∈ (encIt.cs x).toList, u.oneCell' = true) := iH (encIt.one x)
 have XL : RowKit.Hid ((encIt.cs x).toList.length = 9) := iH (by rw [Array.length_toList]; exact encIt.size x)
 obtain ⟨XS, hXS⟩ : ∃ XS, XS = (encIt.cs x).toList := ⟨_, rfl⟩
 have HXS := iH hXS
 obtain ⟨LD, hLD⟩ : ∃ LD, LD = kcs encIt (l.drop i) := ⟨_, rfl⟩
 have HLD := iH hLD
 have LDL : RowKit.Hid (LD.length = (n - i) * 9) := iH (by rw [hLD, xql, List.length_drop, <- hn]; rfl)
 have LD1 : RowKit.Hid (∀ u ∈ LD, u.oneCell' = true) := iH (by rw [hLD]; exact kcs_one encIt _)
 have LDC : RowKit.Hid (∀ j u, LD[j]? = some u -> w.cell? ⟨g, i * 9 + j, none⟩ = some u) := iH (fun j u hj => by
  rw [hLD, yqv encIt l i hil, List.getElem?_drop] at hj
  exact hcell _ u hj)
 rw [<- hXS] at X1 XL CX
 have hov : ∀ lb cb, (callFunc 192 #[.slice (some ⟨xb, 0, none⟩) 1 1, .slice (some ⟨g, (i + 1) * 9, none⟩) lb cb]).run Tryz.prog w = .ok (.value (.bool false)) w := fun lb cb => by
  have hsh : ∀ {b : Nat} {cs : Array Value}, w.heap[b]? = some (.cells cs 173 (0, 0)) -> w.shape? b = some (173, cs.size) := fun {b cs} hb => by simp [World.shape?, hb]
  rw [run_callFunc_extern Tryz.func192 (by kernel_rfl) (by kernel_rfl) (by kernel_rfl) (e := Extern.SlicesOverlaps.overlaps #[115, 115] #[4]) (by kernel_rfl),
   Lib.run_overlaps_apart w 115 4 173 Tryz.underlying115 9 (fun w => Tryz.sizeOf173 w) ⟨xb, 0, none⟩ ⟨g, (i + 1) * 9, none⟩ 1 1 lb cb hxg 173 173 _ _ (hsh hx) (hsh hR) (by rw [List.size_toArray, hrl3]; omega) (frozen_of_row _ _ _ _ _ hx) (frozen_of_row _ _ _ _ _ hx)]
  rfl
 have HOV := iH hov
 have F1 : RowKit.Hid ((i + 1) * 9 + (n - i) * 9 <= R.length /\ i * 9 + 9 <= R.length) := iH (by rw [hrl3]; omega)
 have hgx := iH (show xb ≠ g from hxg)
 have hGi : ¬ (c = i) := by omega
 have hGim : ¬ (c = i + 1) := by omega
 have hw1 : IntKind.i64.wrap ((i : Int) + 1) = (i : Int) + 1 := by rw [IntKind.wrap_i64]; omega
 have hb1 : (0 : Int) <= (i : Int) + 1 := by omega
 have htn : ((i : Int) + 1).toNat = i + 1 := by omega
 have htn2 : ((n : Int) + 1).toNat = n + 1 := by omega
 have hin : i <= n := by omega
 have hin1 : (i : Int) <= (n : Int) := by omega
 have hin2 : (i : Int) <= (n : Int) + 1 := by omega
 have hz1' : ¬ ((i : Int) = (n : Int)) := by omega
 have hcc : ¬ ((c : Int) < (n : Int) + 1) := by omega
 have hcm63 : c <= 9223372036854775807 := by unfold maxLen at hcm; omega
 clear h hx hRl hrl3 hRt hcx hcell hn hXS hLD hil hR hBg hcm hlc hxg
 go_enter Tryz.func157, Tryz.ntmps157
 go_wp2_with (simp only [hov])
 clear hov
 go_region_law (refine yqG rfl (.tmp 73) (.tmp 76) 115 115 rfl 173 i0 Tryz.underlying115 hi0 g ((i + 1) * 9) (n + 1 - (i + 1)) (c - (i + 1)) ⟨g, i * 9, none⟩ (n + 1 - i) (c - i) (n - i) (by simp [Act.eval, Act.put]) (by simp [Act.eval, Act.put]) (by rw [show n + 1 - (i + 1) = n - i by omega]; exact Nat.min_eq_right (by omega)) R 173 HH1.out LD (by rw [LDL.out, hz1]) (fun j u hu => by rw [Addr.add_lit]; exact LDC.out j u hu) (by rw [LDL.out]; exact F1.out.1) LD1.out ?_; intro w2 HG2 HF2)
 have L2 : RowKit.Hid ((splice R ((i + 1) * 9) LD).length = R.length) := iH (length_splice _ _ _ (by rw [LDL.out]; exact F1.out.1))
 obtain ⟨R2, hR2⟩ : ∃ R2, R2 = splice R ((i + 1) * 9) LD := ⟨_, rfl⟩
 rw [<- hR2] at HG2 L2
 have HR2 := iH hR2
 clear hR2
 have CX2 : RowKit.Hid (∀ j u, XS[j]? = some u -> w2.cell? ⟨xb, 0 + j, none⟩ = some u) := iH (fun j u hj => by
  have h1 := CX.out j u hj
  rw [World.cell?_of_block (HF2.out.block xb (World.block_lt_of_cell? _ _ h1) (fun e => hgx.out e))]
  exact h1)
 go_wp2_with (refine yqh rfl (.tmp 80) (.tmp 81) 115 115 rfl 173 i0 Tryz.underlying115 hi0 g (i * 9) _ _ ⟨xb, 0, none⟩ 1 1 1 rfl rfl ?hm R2 173 HG2.out XS ?hn ?hsrc ?hfit X1.out ?next)
 case hm => exact Nat.min_eq_left (by omega)
 case hn => rw [XL.out, hz1]
 case hsrc => intro j u hu; rw [Addr.add_lit]; exact CX2.out j u hu
 case hfit => rw [XL.out, L2.out]; exact F1.out.2
 case next =>
  intro w3 HG3 HF3
  go_wp2
  go_ret
  refine ⟨_, rfl, ?_, ?_, fun k hk => .inl hk⟩
  ·have hl2 : (l.take i ++ x :: l.drop i).length = n + 1 := by
    have := HN.out
    simp only [List.length_append, List.length_cons, List.length_take, List.length_drop]
    omega
   have hR3 : (splice R2 (i * 9) XS).length = R2.length := length_splice _ _ _ (by rw [XL.out, L2.out]; exact F1.out.2)
   rw [<- hl2]
   refine yqt HG3.out BG.out (by rw [hl2]; exact hc) CM.out (by rw [hR3, L2.out, RL.out]; rfl) ?_
   rw [hl2, HR2.out, HN.out, HXS.out, HLD.out]
   exact ins_shift (E := encIt) x (by have := HN.out; omega) (by rw [RL.out, <- HN.out]; show (n + 1) * 9 <= _; omega) RT.out
  exact ((Fo.refl _ w).drew.trans (HF2.out.trans HF3.out)).mono (fun k hk => by rw [hk]; rfl)
theorem rinsert_any {v : Value} {l : List It} {i : Nat} {x : It} {xb : Nat} {w : World} {B : Nat} (h : OwnK encIt w B 173 v l) (hB : B <= w.heap.size) (hx : w.heap[xb]? = some (.cells (encIt.cs x) 173 (0, 0))) (hxg : v.ownBlock ≠ some xb) (hi : i <= l.length) (hl : l.length <= 1000) :
 Calls Tryz.prog 157 #[v, .int .i64 i, .slice (some ⟨xb, 0, none⟩) 1 1] w (InsPost_r w B v l i x) := by
 by_cases he : i = l.length
 ·subst he
  exact rinsert_end v l x xb w B h hB hx hl
 ·rcases id h.2 with ⟨rfl, h0⟩ | ⟨g, cap, cur, rfl, _, _, hnc, _, _, _⟩
  ·omega
  by_cases hc : l.length + 1 <= cap
  ·exact rinsert_shift g _ cap l i x xb w B rfl h hx (fun e => hxg (by rw [e]; rfl)) (by omega) hc hl
  obtain rfl : cap = l.length := by omega
  exact rinsert_grow g _ l i x xb w B rfl h hB hx (by omega) hl
def DelsPost_r (w : World) (B g c : Nat) (l : List It) (i j : Nat) (e : Ending) (w' : World) : Prop :=
 e = .returned (.slice (some ⟨g, 0, none⟩) (i + (l.length - j)) c) /\ OwnK encIt w' B 173 (.slice (some ⟨g, 0, none⟩) (i + (l.length - j)) c) (l.take i ++ l.drop j) /\ Fo (fun k => k = g) w w'
theorem rdeletes_any (g n c : Nat) (l : List It) (i j : Nat) (w : World) (B : Nat) (hn : l.length = n) (h : OwnK encIt w B 173 (.slice (some ⟨g, 0, none⟩) n c) l) (hij : i < j) (hj : j <= n) (hl : n <= 1000) :
 Calls Tryz.prog 159 #[.slice (some ⟨g, 0, none⟩) n c, .int .i64 i, .int .i64 j] w (DelsPost_r w B g c l i j) := by
 obtain ⟨i0, hi0, hz0, hz1, hz2⟩ := info_parts Tryz.infoCu_r
 obtain ⟨R, hR, hBg, -, hlc, hcm, hRl, hRt⟩ := h.row
 have hrl3 : R.length = c * 9 := hRl
 have hcell : ∀ j u, (kcs encIt l)[j]? = some u -> w.cell? ⟨g, j, none⟩ = some u := fun j u hu => by
  have := World.ownsRow.cells h (g := g) rfl j u hu
  simpa [Addr.add_lit] using this
 obtain ⟨LD, hLD⟩ : ∃ LD, LD = kcs encIt (l.drop j) := ⟨_, rfl⟩
 have LDL : RowKit.Hid (LD.length = (n - j) * 9) := iH (by rw [hLD, xql, List.length_drop, hn]; rfl)
 have LDC : RowKit.Hid (∀ t u, LD[t]? = some u -> w.cell? ⟨g, j * 9 + t, none⟩ = some u) := iH (fun t u ht => by
  rw [hLD, yqv encIt l j (by omega), List.getElem?_drop] at ht
  exact hcell _ u ht)
 have LD1 : RowKit.Hid (∀ u ∈ LD, u.oneCell' = true) := iH (by rw [hLD]; exact kcs_one encIt _)
 obtain ⟨m, hm⟩ : ∃ m, m = i + (n - j) := ⟨_, rfl⟩
 have F1 : RowKit.Hid (i * 9 + (n - j) * 9 <= R.length /\ m * 9 + (n - m) * 9 <= R.length /\ i * 9 + (n - j) * 9 = m * 9) := iH (by rw [hrl3]; omega)
 have fin : ∀ (w3 : World) (R3 : List Value), w3.heap[g]? = some (.cells R3.toArray 173 (0, 0)) -> R3.length = R.length -> R3.take (m * 9) = (splice R (i * 9) LD).take (m * 9) -> Fo (fun k => k = g) w w3 -> DelsPost_r w B g c l i j (.returned (.slice (some ⟨g, 0, none⟩) m c)) w3 := by
  intro w3 R3 h3 hl3 ht3 hf3
  have e1 : i + (l.length - j) = m := by omega
  have e2 : (l.take i ++ l.drop j).length = m := by rw [List.length_append, List.length_take, List.length_drop]; omega
  refine ⟨by rw [e1], ?_, hf3⟩
  have hh := yqt (E := encIt) (l := l.take i ++ l.drop j) (B := B) (cap := c) h3 hBg (by rw [e2]; omega) hcm (by rw [hl3]; exact hRl) (by
   rw [e2, show m * encIt.k = m * 9 from rfl, ht3, hLD]
   have := del_range (E := encIt) (cur := R) (l := l) (i := i) (j := j) (by omega) (by omega) (by rw [hRl]; exact Nat.mul_le_mul_right _ hlc) hRt
   rw [e1] at this
   exact this)
  rw [e2] at hh
  rw [e1]
  exact hh
 have FIN := iH fin
 have RL := iH hrl3; have HR := iH hR
 have hlc2 : n <= c := by omega
 have hcm63 : c <= 9223372036854775807 := by unfold maxLen at hcm; omega
 have hci : ¬ (c = i) := by omega
 have hic : i <= c := by omega
 have hcm1 : ¬ (c = m) := by omega
 have hx1 : ((i : Int) == (j : Int)) = false := by rw [beq_eq_false_iff_ne]; omega
 have hx2 : (i : Int) <= (j : Int) := by omega
 have hx4 : (j : Int) <= (n : Int) := by omega
 have hx5 : ¬ (n = i) := by omega
 have hx6 : (n : Int) <= (c : Int) := by omega
 have hx8 : (m : Int) <= (n : Int) := by omega
 have hx9 : m <= n := by omega
 have hxa : j <= n := hj
 have hxb : i <= j := by omega
 clear h hRl hrl3 hRt hcell hn hLD hR hBg hcm hlc fin
 have after : ∀ (w3 : World), w3.heap[g]? = some (.cells (splice R (i * 9) LD).toArray 173 (0, 0)) -> Fo (fun k => k = g) w w3 ->
  ∃ w4, (∀ ty, (Builtin.clear_ #[115] ty #[.slice (some ⟨g, m * 9, none⟩) (n - m) (c - m)]).run Tryz.prog w3 = .ok (.tuple #[]) w4) /\ DelsPost_r w B g c l i j (.returned (.slice (some ⟨g, 0, none⟩) m c)) w4 := by
  intro w3 h3 hf3
  have hl3 : (splice R (i * 9) LD).length = R.length := length_splice _ _ _ (by rw [LDL.out]; exact F1.out.1)
  obtain ⟨w4, hr, ⟨R4, h4, hl4, ht4⟩, hf4⟩ := run_clear_k (P := Tryz.prog) w3 115 173 _ Tryz.underlying115 (fun w => Tryz.zeroValue173 w) (by
   intro v hv
   simp [Value.cells] at hv
   (repeat' (rcases hv with rfl | hv)) <;> first | rfl | (subst hv; rfl)) (by decide) (n := n - m) (c := c - m) (o := m * 9) (by omega) h3 (by rw [hl3]; exact F1.out.2.1)
  exact ⟨w4, hr, FIN.out w4 R4 h4 (by rw [hl4, hl3]) ht4 (hf3.trans hf4)⟩
 have AFT := iH after
 have HM := iH hm.symm
 clear after hm
 by_cases hc1 : c = j
 ·subst hc1
  obtain rfl : n = c := by omega
  have hLD0 : LD = [] := List.eq_nil_of_length_eq_zero (by rw [LDL.out]; omega)
  have HL0 := iH hLD0
  have HM1 : Hid (m = i) := iH (by have := HM.out; omega)
  have F2 : RowKit.Hid (i * 9 <= R.length) := iH (by have := F1.out.1; omega)
  clear hLD0
  go_enter Tryz.func159, Tryz.ntmps159
  go_wp2
  go_region_law (refine yqj rfl (.tmp 22) (.tmp 25) 115 115 rfl 173 i0 9 Tryz.underlying115 hi0 hz1 g i n (by simp [Act.eval, Act.put]) (.slice (some ⟨g, 0, none⟩) 0 0) 0 [] (by simp [Act.eval, Act.put]) (Src.ofSlice _ Tryz.underlying115 ⟨g, 0, none⟩ 0 0 [] (by simp) (by simp) (by simp)) (by omega) R HR.out (by simpa using F2.out) ?_; rw [show i + 0 = m by rw [HM1.out]; omega]; intro w3 HG3 HF3)
  obtain ⟨w4, hr4, post4⟩ := AFT.out w3 (by rw [HL0.out]; exact HG3.out) ((Fo.refl _ w).drew.trans HF3.out)
  have P4 := iH post4; have HR4 := iH hr4
  clear post4 hr4
  go_wp2_with (refine xqN _ rfl (.tmp 31) 115 rfl _ rfl w4 (HR4.out _) ?_)
  go_ret
  exact P4.out
 ·go_enter Tryz.func159, Tryz.ntmps159
  go_wp2
  go_region_law (refine yqj rfl (.tmp 22) (.tmp 25) 115 115 rfl 173 i0 9 Tryz.underlying115 hi0 hz1 g i c (by simp [Act.eval, Act.put]) (.slice (some ⟨g, j * 9, none⟩) (n - j) (c - j)) (n - j) LD (by simp [Act.eval, Act.put]) (Src.ofSlice _ Tryz.underlying115 ⟨g, j * 9, none⟩ (n - j) (c - j) LD LDL.out (fun t u ht => by rw [Addr.add_lit]; exact LDC.out t u ht) LD1.out) (by omega) R HR.out (by rw [LDL.out]; exact F1.out.1) ?_; rw [HM.out]; intro w3 HG3 HF3)
  obtain ⟨w4, hr4, post4⟩ := AFT.out w3 HG3.out ((Fo.refl _ w).drew.trans HF3.out)
  have P4 := iH post4; have HR4 := iH hr4
  clear post4 hr4
  go_wp2_with (refine xqN _ rfl (.tmp 31) 115 rfl _ rfl w4 (HR4.out _) ?_)
  go_ret
  exact P4.out
theorem rclone_any (v : Value) (m : List It) (w : World) (h : RdK encIt w v m) (hl : m.length <= 1000) :
 Calls Tryz.prog 130 #[v] w fun e w' => ∃ v', e = .returned v' /\ OwnK encIt w' w.heap.size 173 v' m /\ Kept w w' [] := by
 obtain ⟨i0, hi, hz0, hz1, hz2⟩ := info_parts Tryz.infoCu_r
 obtain ⟨a, c, rfl, hc, ha, hcell⟩ := id h
 have H := iH h; clear h hcell
 have q22 : ∀ (w : World) (a : Option Addr) (n c n' c' : Nat), (binOp .eql 115 (.slice a n c) (.slice none n' c')).run Tryz.prog w = .ok (.bool a.isNone) w := fun w a n c n' c' => Lib.run_eql_slice_nil w _ _ a n c n' c' Tryz.underlying115
 cases a with
 | none =>
 obtain rfl := ha rfl
 obtain rfl : m = [] := List.eq_nil_of_length_eq_zero (by omega)
 clear ha
 go_enter Tryz.func130, Tryz.ntmps130
 go_wp2
 go_ret
 exact ⟨_, rfl, OwnK.nil _ _ _, Kept.refl _ _⟩
 | some x =>
  clear ha
  go_enter Tryz.func130, Tryz.ntmps130
  go_wp2_with (at_builtin; refine xqe _ rfl (.tmp 5) (.tmp 6) 115 115 rfl w.heap.size 173 i0 _ 9 88 Tryz.underlying115 hi hz0 hz1 hz2 rfl (.slice (some ⟨w.heap.size, 0, none⟩) 0 0) 0 [] rfl ?hown (.slice (some x) m.length c) m.length (kcs encIt m) rfl ?src ?b1 ?b2 ?base ?next)
  case hown => exact World.ownsRow_made w #[] 0 (Nat.le_refl _) (Nat.zero_le _) (by simp)
  case src => exact (H.out.keep ((Kept.refl w []).alloc _)).src Tryz.underlying115
  case b1 => unfold maxLen; omega
  case b2 => omega
  case base => simp
  case next =>
  intro v2 w2 hown hgrow _ _
  have ho : OwnK encIt w2 w.heap.size 173 v2 m := by unfold OwnK; show w2.ownsRow _ _ 9 _ _ _; simpa using hown
  have hk : Kept w w2 [] := ((Kept.refl w []).alloc _).grown hgrow (fun k hk => .inr (by simp [Value.ownBlock] at hk; omega))
  have Ho := iH ho; have Hk := iH hk
  clear ho hk hown hgrow
  go_wp2
  go_ret
  exact ⟨_, rfl, Ho.out, Hk.out⟩
end Go.Proofs.YticiofkiffgclaaGreat
