/-
 Kqn in one text.
-/
import Derived.Test.YticiofkiffgclaaGreatQu0
import Derived.Test.YticiofkiffgclaaGreatQu24
set_option linter.unusedVariables false
set_option maxHeartbeats 16000000
set_option maxRecDepth 100000
namespace Go.Proofs.YticiofkiffgclaaGreat
open Go.RowKit
variable {T : TypeId} {F : Nat -> Option Value} {w w' : World} {B h oo : Nat} {V : Value} {xs : List Tk}
theorem xqF {P : Program} (w : World) {ops : Array Oper} {rest : List Oper} {o : Oper} {a : Act} {Q : Exit -> Act -> World -> Prop} (hgd : o.guard = none) (t : TypeId) (x : Operand) (ho : o.op = .buildSlice t 1 #[(0, x)])
 (e : TypeId) (i : TypeInfo) (z : Value) (size : Nat) (ht : P.underlying t = some (.slice e)) (hi : P.info? e = some i) (hz : i.zero = some z) (hs : i.size = size) (h0 : 0 < size) (hb : size <= 16777216)
 (cells : List Value) (hx : a.eval x = .agg cells.toArray) (hl : cells.length = size)
 (h : wpList P ops Q rest (a.put o.dst (.slice (some ⟨w.heap.size, 0, none⟩) 1 1)) (w.alloc (.cells cells.toArray e))) : wpList P ops Q (o :: rest) a w := by
 refine wpList_plain hgd fun K hK => ?_
 have hr := yqs (P := P) w t e i z size ht hi hz hs h0 hb cells hl
 unfold Oper.wp execOp
 simp only [ho, List.map_toArray, List.map_cons, List.map_nil, hx, hr, Sem.run_bind, Sem.run_pure, Result.andThen_ok]
 exact hK _ _ h
theorem src_tk (y : Tk) (w : World) : Src Tryz.prog 4 76 (.slice (some ⟨w.heap.size, 0, none⟩) 1 1) 1 y.cs.toList (w.alloc (.cells y.cs 38)) := by
 refine Src.ofSlice _ Tryz.underlying76 ⟨w.heap.size, 0, none⟩ 1 1 _ rfl (fun j x hx => ?_) (tk_one y)
 rw [Addr.add_lit, cell_of_row _ _ _ _ _ _ (heap_alloc_new w _), Nat.zero_add]
 simpa using hx
def yqH (L b : Int) (x : Tk) : Bool := decide (b <= x.n) || x.n == L
theorem stay_map (ok : Okp (xs.map Tk.pl)) (b : Int) : (xs.filter (yqH (xqk (xs.map Tk.pl)) b)).map Tk.pl = xqM (xs.map Tk.pl) b := by
 rw [trimS_doc ok, List.filter_map]
 rfl
theorem take_hit {P : Tk -> Bool} {i : Nat} {x : Tk} (h : xs[i]? = some x) (hp : P x = true) : (xs.take (i + 1)).filter P = (xs.take i).filter P ++ [x] := by
 simp [List.take_add_one, h, hp]
theorem take_miss {P : Tk -> Bool} {i : Nat} {x : Tk} (h : xs[i]? = some x) (hp : P x = false) : (xs.take (i + 1)).filter P = (xs.take i).filter P := by
 simp [List.take_add_one, h, hp]
theorem rktrim_any (a : To T F (.int .i64 (xqk (xs.map Tk.pl))) w B h oo V xs) (ok : Okp (xs.map Tk.pl)) (b : Int) :
 Calls Tryz.prog 68 #[.pointer (some ⟨h, oo, none⟩), .int .i64 b] w fun e w' => e = .returned (.int .i64 ((xs.length : Int) - ((xqM (xs.map Tk.pl) b).length : Int))) /\
  ∃ V' xs', To T F (.int .i64 (xqk (xqM (xs.map Tk.pl) b))) w' B h oo V' xs' /\ xs'.map Tk.pl = xqM (xs.map Tk.pl) b /\ Stp (xqx h V) (xqx h V') w w' := by
 have hsz : xs.length <= 64 := by have := ok.size; simpa using this
 obtain ⟨i0, hi0, hz0, hz1, hzb⟩ := info_parts Tryz.infoTk
 have I := iH (And.intro hi0 (And.intro hz0 (And.intro hz1 hzb)))
 have HSM := iH (stay_map ok b)
 rw [yqD]
 obtain ⟨L, hL⟩ : ∃ L, L = xqk (xs.map Tk.pl) := ⟨_, rfl⟩
 rw [<- hL] at a HSM ⊢
 have A := iH a
 clear hL ok hi0 hz0 hz1 hzb
 obtain ⟨u, cp, hV⟩ := a.shape
 subst hV
 clear a
 go_enter Tryz.func68, Tryz.ntmps68
 go_wp2
 go_loopg [5, 6] xs.length (fun kx s5 s6 wr => ∃ (i : Nat) (v : Value), s6 = .int .i64 i /\ s5 = v /\ i <= xs.length /\ xs.length - i <= kx /\ RowKit.Hid (Kept w wr [] /\ OwnT wr w.heap.size 38 v ((xs.take i).filter (yqH L b))))
 case atStart => exact ⟨0, _, rfl, rfl, by omega, by omega, Kept.refl _ _, OwnT.nil _ _ _⟩
 case round =>
  obtain ⟨i, v, rfl, rfl, hi, hkx, HS⟩ := hrel
  have ar := A.out.keep HS.out.1
  have cv := ar.cell.1
  have cl := ar.cell1.1
  by_cases hlt : i < xs.length
  ·have x1 : (i : Int) < (xs.length : Int) := by omega
   obtain ⟨x, hx⟩ : ∃ r, xs[i]? = some r := ⟨_, List.getElem?_eq_getElem hlt⟩
   obtain ⟨g, hg, hh⟩ := ar.own.at i hlt
   clear hh
   subst hg
   obtain ⟨q0, q1, q2, q3⟩ := ar.own.four hx
   obtain ⟨lv, cvv, hsv⟩ := HS.out.2.shape
   obtain ⟨m, hm⟩ : ∃ m, m = ((xs.take i).filter (yqH L b)).length := ⟨_, rfl⟩
   have hm64 : m <= 64 := by
    have h1 : ((xs.take i).filter (yqH L b)).length <= (xs.take i).length := List.length_filter_le _ _
    have h2 : (xs.take i).length <= xs.length := by rw [List.length_take]; omega
    omega
   rw [<- hm] at hsv
   subst hsv
   have AR := iH ar; have HX := iH hx; have HM := iH hm
   obtain ⟨q, hq⟩ : ∃ q, yqH L b x = q := ⟨_, rfl⟩
   have HQ := iH hq
   have HKP : RowKit.Hid (q = true -> (xs.take (i + 1)).filter (yqH L b) = (xs.take i).filter (yqH L b) ++ [x]) := iH (fun h => take_hit hx (by rw [hq]; exact h))
   have HKM : RowKit.Hid (q = false -> (xs.take (i + 1)).filter (yqH L b) = (xs.take i).filter (yqH L b)) := iH (fun h => take_miss hx (by rw [hq]; exact h))
   obtain ⟨b0, b1, b2, b3, b4, b5⟩ := x
   simp only [Tk.op] at *
   have HQ2 : RowKit.Hid (q = (decide (b <= b0) || b0 == L)) := iH hq.symm
   clear ar hx hm hq
   have four := iH (And.intro cv (And.intro cl (And.intro q0 (And.intro q1 (And.intro q2 q3)))))
   by_cases hge : b <= b0
   ·obtain rfl : q = true := by rw [HQ2.out]; simp [hge]
    have d1 : decide (b <= b0) = true := decide_eq_true hge
    go_wp2_with fail
    go_quiet (fail)
    have KD : Kept w (wr.drewN nq) [] := HS.out.1.drewN nq
    have OD : OwnT (wr.drewN nq) w.heap.size 38 (.slice lv m cvv) ((xs.take i).filter (yqH L b)) := HS.out.2.kept ((Kept.refl wr []).drewN nq) (by simp)
    obtain ⟨wd, hwd⟩ : ∃ wd, wd = wr.drewN nq := ⟨_, rfl⟩
    have fw : wd.cell? ⟨h, oo, none⟩ = some (.slice (some ⟨g, 0, none⟩) xs.length cp) /\ wd.cell? ⟨g, i * 4, none⟩ = some (.int .i64 b0) /\ wd.cell? ⟨g, i * 4 + 1, none⟩ = some (.int .i64 b1) /\ wd.cell? ⟨g, i * 4 + 2, none⟩ = some (.slice b2 b4.length b3) /\ wd.cell? ⟨g, i * 4 + 3, none⟩ = some (.int .i64 b5) := by
     rw [hwd]
     obtain ⟨e0, e1, e2, e3, e4, e5⟩ := four.out
     exact ⟨e0, e2, e3, e4, e5⟩
    rw [<- hwd] at KD OD ⊢
    have KD := iH KD; have OD := iH OD
    clear hwd cv cl q0 q1 q2 q3
    obtain ⟨r0, r1, r2, r3, r4⟩ := fw
    go_wp2_with (first
     | (at_builtin; refine xqa _ rfl (.tmp 42) (.tmp 50) 76 76 rfl w.heap.size 38 i0 _ 4 48 Tryz.underlying76 I.out.1 I.out.2.1 I.out.2.2.1 I.out.2.2.2 rfl (.slice lv m cvv) m (tcs ((xs.take i).filter (yqH L b))) rfl ?hown _ 1 (Tk.cs ⟨b0, b1, b2, b3, b4, b5⟩).toList rfl (src_tk ⟨b0, b1, b2, b3, b4, b5⟩ wd) (by unfold maxLen; omega) (by omega) ?base ?next)
     | (refine xqF _ rfl 76 (.tmp 49) rfl 38 i0 _ 4 Tryz.underlying76 I.out.1 I.out.2.1 I.out.2.2.1 (by decide) (by decide) (Tk.cs ⟨b0, b1, b2, b3, b4, b5⟩).toList rfl rfl ?_))
    case hown =>
     have := OD.out.kept ((Kept.refl wd []).alloc (.cells #[.int .i64 b0, .int .i64 b1, .slice b2 b4.length b3, .int .i64 b5] 38)) (by simp)
     unfold OwnT at this
     rw [<- HM.out] at this
     exact this
    case base => have := KD.out.size; simp; omega
    case next =>
    intro v2 w2 hown hf2 hg2 hl2
    have k2 : Kept w w2 [] := (KD.out.alloc (.cells #[.int .i64 b0, .int .i64 b1, .slice b2 b4.length b3, .int .i64 b5] 38)).grown hg2 (fun k hk => .inr (OD.out.lt k hk).1)
    have o2 : OwnT w2 w.heap.size 38 v2 ((xs.take (i + 1)).filter (yqH L b)) := by
     unfold OwnT
     rw [HKP.out trivial, <- tcs_snoc, List.length_append, <- HM.out]
     exact hown
    have HS2 := iH (And.intro k2 o2)
    clear hown hf2 hg2 hl2 k2 o2 r0 r1 r2 r3 r4
    go_wp2
    go_roundg (xs.length - (i + 1))
    case measure => omega
    case rel => exact ⟨i + 1, v2, by go_num, rfl, by omega, by omega, HS2⟩
   have d1 : decide (b <= b0) = false := decide_eq_false hge
   by_cases hL : b0 = L
   ·obtain rfl : q = true := by rw [HQ2.out]; simp [hL]
    have d2 : (b0 == L) = true := beq_iff_eq.2 hL
    clear hL
    go_wp2_with fail
    go_quiet (fail)
    have KD : Kept w (wr.drewN nq) [] := HS.out.1.drewN nq
    have OD : OwnT (wr.drewN nq) w.heap.size 38 (.slice lv m cvv) ((xs.take i).filter (yqH L b)) := HS.out.2.kept ((Kept.refl wr []).drewN nq) (by simp)
    obtain ⟨wd, hwd⟩ : ∃ wd, wd = wr.drewN nq := ⟨_, rfl⟩
    have fw : wd.cell? ⟨h, oo, none⟩ = some (.slice (some ⟨g, 0, none⟩) xs.length cp) /\ wd.cell? ⟨g, i * 4, none⟩ = some (.int .i64 b0) /\ wd.cell? ⟨g, i * 4 + 1, none⟩ = some (.int .i64 b1) /\ wd.cell? ⟨g, i * 4 + 2, none⟩ = some (.slice b2 b4.length b3) /\ wd.cell? ⟨g, i * 4 + 3, none⟩ = some (.int .i64 b5) := by
     rw [hwd]
     obtain ⟨e0, e1, e2, e3, e4, e5⟩ := four.out
     exact ⟨e0, e2, e3, e4, e5⟩
    rw [<- hwd] at KD OD ⊢
    have KD := iH KD; have OD := iH OD
    clear hwd cv cl q0 q1 q2 q3
    obtain ⟨r0, r1, r2, r3, r4⟩ := fw
    go_wp2_with (first
     | (at_builtin; refine xqa _ rfl (.tmp 42) (.tmp 50) 76 76 rfl w.heap.size 38 i0 _ 4 48 Tryz.underlying76 I.out.1 I.out.2.1 I.out.2.2.1 I.out.2.2.2 rfl (.slice lv m cvv) m (tcs ((xs.take i).filter (yqH L b))) rfl ?hown _ 1 (Tk.cs ⟨b0, b1, b2, b3, b4, b5⟩).toList rfl (src_tk ⟨b0, b1, b2, b3, b4, b5⟩ wd) (by unfold maxLen; omega) (by omega) ?base ?next)
     | (refine xqF _ rfl 76 (.tmp 49) rfl 38 i0 _ 4 Tryz.underlying76 I.out.1 I.out.2.1 I.out.2.2.1 (by decide) (by decide) (Tk.cs ⟨b0, b1, b2, b3, b4, b5⟩).toList rfl rfl ?_))
    case hown =>
     have := OD.out.kept ((Kept.refl wd []).alloc (.cells #[.int .i64 b0, .int .i64 b1, .slice b2 b4.length b3, .int .i64 b5] 38)) (by simp)
     unfold OwnT at this
     rw [<- HM.out] at this
     exact this
    case base => have := KD.out.size; simp; omega
    case next =>
    intro v2 w2 hown hf2 hg2 hl2
    have k2 : Kept w w2 [] := (KD.out.alloc (.cells #[.int .i64 b0, .int .i64 b1, .slice b2 b4.length b3, .int .i64 b5] 38)).grown hg2 (fun k hk => .inr (OD.out.lt k hk).1)
    have o2 : OwnT w2 w.heap.size 38 v2 ((xs.take (i + 1)).filter (yqH L b)) := by
     unfold OwnT
     rw [HKP.out trivial, <- tcs_snoc, List.length_append, <- HM.out]
     exact hown
    have HS2 := iH (And.intro k2 o2)
    clear hown hf2 hg2 hl2 k2 o2 r0 r1 r2 r3 r4
    go_wp2
    go_roundg (xs.length - (i + 1))
    case measure => omega
    case rel => exact ⟨i + 1, v2, by go_num, rfl, by omega, by omega, HS2⟩
   obtain rfl : q = false := by rw [HQ2.out]; simp [hL, hge]
   have d2 : (b0 == L) = false := beq_eq_false_iff_ne.2 hL
   clear hL
   go_wp2_with fail
   go_quiet (fail)
   have HS2 : RowKit.Hid (Kept w (wr.drewN nq) [] /\ OwnT (wr.drewN nq) w.heap.size 38 (.slice lv m cvv) ((xs.take (i + 1)).filter (yqH L b))) := iH ⟨HS.out.1.drewN nq, by rw [HKM.out trivial]; exact HS.out.2.kept ((Kept.refl wr []).drewN nq) (by simp)⟩
   go_wp2
   go_roundg (xs.length - (i + 1))
   case measure => omega
   case rel => exact ⟨i + 1, _, by go_num, rfl, by omega, by omega, HS2⟩
  have x1 : ¬ (i : Int) < (xs.length : Int) := by omega
  obtain ⟨lv, cvv, hsv⟩ := HS.out.2.shape
  have hfin : (xs.take i).filter (yqH L b) = xs.filter (yqH L b) := by rw [List.take_of_length_le (by omega)]
  obtain ⟨ys, hys⟩ : ∃ ys, ys = xs.filter (yqH L b) := ⟨_, rfl⟩
  rw [hfin, <- hys] at HS hsv
  rw [<- hys] at HSM
  subst hsv
  have hle : ys.length <= xs.length := by rw [hys]; exact List.length_filter_le _ _
  have hlen : (xqM (xs.map Tk.pl) b).length = ys.length := by rw [<- HSM.out, List.length_map]
  have HLN := iH hlen
  obtain ⟨⟨f0, f1⟩, t9, s9⟩ := A.out.lay (Fo.ofKept HS.out.1 _) (HS.out.2.mono A.out.size) (fun y hy => (A.out.rd y (by rw [hys] at hy; exact (List.mem_filter.1 hy).1)).keep HS.out.1) (fun k hk => .inr (HS.out.2.lt k hk).1)
  have T9 := iH t9; have S9 := iH s9
  have m1 : wrap64 ((xs.length : Int) - (ys.length : Int)) = (xs.length : Int) - (ys.length : Int) := by simp only [wrap64]; omega
  clear hfin hys hlen t9 s9
  go_wp2
  go_ret
  exact ⟨retn (by rw [HLN.out]), _, ys, T9.out, HSM.out, S9.out⟩
end Go.Proofs.YticiofkiffgclaaGreat
