/-
 Bd, Be, Bf, Bg, Bh in one text.
-/
import Derived.Test.YticiofkiffgclaaGreatQu0
import Derived.Test.YticiofkiffgclaaGreatQu26
import Derived.Test.YticiofkiffgclaaGreatQu16
import Derived.Deep.RegionHeld3
set_option linter.unusedVariables false
set_option maxHeartbeats 16000000
set_option maxRecDepth 100000
namespace Go.Proofs.YticiofkiffgclaaGreat
open Go.RowKit Go.Maps
def Man (w : World) (u : Value) (st : List Nat) : Prop :=
 ∀ (x : Int) (W : World), (Lit.int .i64 x).wf = true -> Kept w W [] -> Calls Tryz.prog 19 #[u, .int .i64 x] W fun e w' => e = .returned (.int .u8 (stAt st x)) /\ W = w'
theorem Man.keep {w w' : World} {u : Value} {st : List Nat} (h : Man w u st) (k : Kept w w' []) : Man w' u st := fun x W hx hk => h x W hx (k.trans hk (by simp))
theorem Mg.man {w : World} {B p b : Nat} {v : Value} {st : List Nat} (h : Mg w B p b v st) : Man w (.pointer (some ⟨p, 0, .none⟩)) st := fun x W hx hk => mstate_any (h.keep hk) x hx
def RMan (w : World) (u : Value) (st : List Nat) : Prop :=
 ∀ (x : Int) (W : World), Kept w W [] -> Calls Tryz.prog 32 #[u, .int .i64 x] W fun e w' => e = .returned (.int .u8 (stAt st x)) /\ W = w'
theorem RMan.keep {w w' : World} {u : Value} {st : List Nat} (h : RMan w u st) (k : Kept w w' []) : RMan w' u st := fun x W hk => h x W (k.trans hk (by simp))
theorem Rm.man {w : World} {B q : Nat} {v : Value} {st : List Nat} (h : Rm w B q v st) : RMan w (.pointer (some ⟨q, 0, .none⟩)) st := fun x W hk => rstate_any (h.keep hk) x
def betw (A : Int) (la : List Int) (B : Int) (lb : List Int) (x : Int) : Bool := xqv B lb x && !xqv A la x
theorem between_any (x A B : Int) (va vb : Value) (la lb : List Int) (w : World) (ha : RdI w va la) (hb : RdI w vb lb) :
 Calls Tryz.prog 151 #[.int .i64 x, .agg #[.int .i64 A, va], .agg #[.int .i64 B, vb]] w fun e w' => e = .returned (.bool (betw A la B lb x)) /\ Kept w w' [] := by
 have Ha := iH ha; have Hb := iH hb
 obtain ⟨a, c, rfl, _, _, _, _⟩ := ha
 obtain ⟨b, d, rfl, _, _, _, _⟩ := hb
 obtain ⟨p, hp⟩ : ∃ p, xqv B lb x = p := ⟨_, rfl⟩
 obtain ⟨q, hq⟩ : ∃ q, xqv A la x = q := ⟨_, rfl⟩
 have HP := iH hp; have HQ := iH hq
 have R : RowKit.Hid (betw A la B lb x = (p && !q)) := iH (by unfold betw; rw [hp, hq])
 rw [R.out]
 have h1 : ∀ W, Kept w W [] -> Calls Tryz.prog 187 #[.agg #[.int .i64 B, .slice b lb.length d], .int .i64 x] W fun e w' => e = .returned (.bool p) /\ Kept W w' [] := fun W k => by
  have := sees_any B x _ lb W (Hb.out.keep k)
  rw [HP.out] at this
  exact this
 have h2 : ∀ W, Kept w W [] -> Calls Tryz.prog 187 #[.agg #[.int .i64 A, .slice a la.length c], .int .i64 x] W fun e w' => e = .returned (.bool q) /\ Kept W w' [] := fun W k => by
  have := sees_any A x _ la W (Ha.out.keep k)
  rw [HQ.out] at this
  exact this
 have H1 := iH h1; have H2 := iH h2
 clear h1 h2 hp hq
 obtain ⟨W1, hW1⟩ : ∃ W1, W1 = (w.alloc (.cells #[.int .i64 A, .slice a la.length c] 36)).alloc (.cells #[.int .i64 B, .slice b lb.length d] 36) := ⟨_, rfl⟩
 have k1 : Kept w W1 [] := by rw [hW1]; exact ((Kept.refl w []).alloc _).alloc _
 have g1 : W1.heap[w.heap.size]? = some (.cells #[.int .i64 A, .slice a la.length c] 36 (0, 0)) := by rw [hW1]; exact ((Kept.refl _ []).alloc _).heap (by simp) (heap_alloc_new w _)
 have HW := iH hW1; have K1 := iH k1; have G1 := iH g1
 clear hW1 k1 g1
 cases p
 ·go_enter Tryz.func151, Tryz.ntmps151
  go_wp2_with fail
  rw [<- HW.out]
  refine (H1.out _ K1.out).mono ?_
  rintro e w2 ⟨rfl, k2⟩
  go_wp2
  go_ret
  exact ⟨rfl, K1.out.trans k2 (by simp)⟩
 ·go_enter Tryz.func151, Tryz.ntmps151
  go_wp2_with fail
  rw [<- HW.out]
  refine (H1.out _ K1.out).mono ?_
  rintro e w2 ⟨rfl, k2⟩
  have K2 := iH k2
  obtain ⟨c0, c1⟩ := xqq (k2.heap (by simp) G1.out)
  clear k2
  go_wp2_with fail
  refine (H2.out _ (K1.out.trans K2.out (by simp))).mono ?_
  rintro e w3 ⟨rfl, k3⟩
  have K3 := iH k3
  clear k3
  go_wp2
  go_ret
  exact ⟨by simp, K1.out.trans (K2.out.trans K3.out (by simp)) (by simp)⟩
def told (st : List Nat) (A : Int) (la : List Int) (B : Int) (lb : List Int) (o : ByteArray) (e : Ev) : Bool := dueB e.ow o && (stAt st e.tx == 2 && betw A la B lb e.tx)
theorem filter_take {P : Ev -> Bool} {m : List Ev} {i : Nat} {x : Ev} (h : m[i]? = some x) : (m.take (i + 1)).filter P = (m.take i).filter P ++ (if P x then [x] else []) := by
 rw [List.take_add_one, h, List.filter_append]
 congr 1
 simp only [Option.toList_some, List.filter_cons, List.filter_nil]
theorem filter_len {P : Ev -> Bool} (m : List Ev) (i : Nat) : ((m.take i).filter P).length <= m.length := Nat.le_trans (List.length_filter_le _ _) (by rw [List.length_take]; omega)
theorem Kept.fo_g8 {a w w' : World} {O : Nat -> Prop} (h : Kept a w []) (f : Fo O w w') (hO : ∀ k, O k -> a.heap.size <= k) : Kept a w' [] :=
 ⟨f.os.trans h.os, f.tape.trans h.tape, f.output.trans h.output, Nat.le_trans h.size f.size, fun k hk _ => (f.block k (Nat.lt_of_lt_of_le hk h.size) (fun o => by have := hO k o; omega)).trans (h.block k hk (by simp))⟩
theorem bof_any {w : World} {v u : Value} {m : List Ev} {st : List Nat} {A B : Int} {va vb : Value} {la lb : List Int} (o : ByteArray) (hm : RdE w v m) (hl : m.length < 1000000) (hM : Man w u st) (ha : RdI w va la) (hb : RdI w vb lb) (hx : ∀ e ∈ m, (Lit.int .i64 e.tx).wf = true) :
 Calls Tryz.prog 95 #[v, u, .agg #[.int .i64 A, va], .agg #[.int .i64 B, vb], .string o] w fun e w' => ∃ v', e = .returned v' /\ OwnE w' w.heap.size 50 v' (srt byId (m.filter (told st A la B lb o))) /\ Kept w w' [] := by
 obtain ⟨a, ca, rfl⟩ := hm.shape3
 have HM := iH hm; have HA := iH ha; have HB := iH hb; have MM := iH hM; have HX := iH hx
 obtain ⟨aa, ac, rfl, _, _, _, _⟩ := ha
 obtain ⟨ba, bc, rfl, _, _, _, _⟩ := hb
 obtain ⟨n, hn⟩ : ∃ n, n = m.length := ⟨_, rfl⟩
 have HN := iH hn
 rw [<- hn] at hl ⊢
 obtain ⟨W1, hW1⟩ : ∃ W1, W1 = (w.alloc (.cells #[.int .i64 A, .slice aa la.length ac] 36)).alloc (.cells #[.int .i64 B, .slice ba lb.length bc] 36) := ⟨_, rfl⟩
 have hz : (w.alloc (.cells #[.int .i64 A, .slice aa la.length ac] 36)).heap.size = w.heap.size + 1 := by simp
 have k1 : Kept w W1 [] := by rw [hW1]; exact ((Kept.refl w []).alloc _).alloc _
 have g1 : W1.heap[w.heap.size]? = some (.cells #[.int .i64 A, .slice aa la.length ac] 36 (0, 0)) := by rw [hW1]; exact ((Kept.refl _ []).alloc _).heap (by simp) (heap_alloc_new w _)
 have g2 : W1.heap[w.heap.size + 1]? = some (.cells #[.int .i64 B, .slice ba lb.length bc] 36 (0, 0)) := by rw [hW1, <- hz]; exact heap_alloc_new _ _
 have zW : W1.heap.size = w.heap.size + 2 := by rw [hW1]; simp
 have HW := iH hW1; have K1 := iH k1; have G1 := iH g1; have G2 := iH g2; have ZW := iH zW
 obtain ⟨i0, hi0, hz0, hz1, hzb⟩ := info_parts Tryz.infoEv_g6
 have I := iH (And.intro hi0 (And.intro hz0 (And.intro hz1 hzb)))
 clear hm hn hW1 hz k1 g1 g2 zW hM hx hi0 hz0 hz1 hzb
 go_enter Tryz.func95, Tryz.ntmps95
 go_upto_region 1 with fail
 rw [<- HW.out]
 go_wp2
 go_loopg [11, 16] n (fun kx s11 s16 wr => ∃ (i : Nat) (cp : Nat) (g : Option Addr) (l : List Ev), s11 = .slice g l.length cp /\ s16 = .int .i64 i /\ i <= n /\ n - i <= kx /\ RowKit.Hid (l = (m.take i).filter (told st A la B lb o) /\ OwnE wr W1.heap.size 50 (.slice g l.length cp) l /\ Kept W1 wr []))
 case atStart => exact ⟨0, 0, none, [], rfl, rfl, by omega, by omega, rfl, OwnE.nil _ _ _, Kept.refl _ _⟩
 case round =>
  obtain ⟨i, cp, g, l, rfl, rfl, hi, hkx, HS⟩ := hrel
  have hll : l.length < 1000000 := by have := filter_len (P := told st A la B lb o) m i; rw [<- HS.out.1, <- HN.out] at this; omega
  by_cases hlt : i < n
  ·have x1 : (i : Int) < (n : Int) := by omega
   obtain ⟨x, hx⟩ : ∃ r, m[i]? = some r := ⟨_, List.getElem?_eq_getElem (by rw [<- HN.out]; exact hlt)⟩
   have em := HM.out.kept (K1.out.trans HS.out.2.2 (by simp)) (by simp)
   rw [<- HN.out] at em
   obtain ⟨bm, om, rfl, f⟩ := em.eight hx
   have hwf : (Lit.int .i64 x.tx).wf = true := HX.out x (List.mem_of_getElem? hx)
   obtain ⟨b0, b1, b2, b3, b4, b5, b6, b7⟩ := x
   obtain ⟨p0, p1, p2, p3, p4, p5, p6, p7⟩ := f
   simp only at p0 p1 p2 p3 p4 p5 p6 p7 hwf
   have HX1 := iH hx; have HF := iH hwf
   obtain ⟨W2, hW2⟩ : ∃ W2, W2 = wr.alloc (.cells #[.int .i64 b0, .int .i64 b1, .string b2, .int .i64 b3, .int .i64 b4, .int .u8 b5, .int .i64 b6, .string b7] 50) := ⟨_, rfl⟩
   have k2 : Kept wr W2 [] := by rw [hW2]; exact (Kept.refl wr []).alloc _
   have gz : W2.heap[wr.heap.size]? = some (.cells #[.int .i64 b0, .int .i64 b1, .string b2, .int .i64 b3, .int .i64 b4, .int .u8 b5, .int .i64 b6, .string b7] 50 (0, 0)) := by rw [hW2]; exact heap_alloc_new wr _
   have HW2 := iH hW2; have K2 := iH k2; have GZ := iH gz
   obtain ⟨d0, hd0⟩ : ∃ d, dueB b2 o = d := ⟨_, rfl⟩
   obtain ⟨s0, hs0⟩ : ∃ s, stAt st b1 = s := ⟨_, rfl⟩
   obtain ⟨r0, hr0⟩ : ∃ r, betw A la B lb b1 = r := ⟨_, rfl⟩
   have EN : RowKit.Hid (∀ {q : Bool}, m[i]? = some ⟨b0, b1, b2, b3, b4, b5, b6, b7⟩ -> (d0 && (s0 == 2 && r0)) = q -> (m.take (i + 1)).filter (told st A la B lb o) = (m.take i).filter (told st A la B lb o) ++ (if q then [⟨b0, b1, b2, b3, b4, b5, b6, b7⟩] else [])) := iH (fun h1 h2 => by
    rw [filter_take h1, <- h2]; simp only [told, hd0, hs0, hr0])
   have cd := iH (fun W => due_any ⟨b0, b1, b2, b3, b4, b5, b6, b7⟩ o W)
   have cs := iH (fun W (k : Kept wr W []) => MM.out b1 W HF.out (K1.out.trans (HS.out.2.2.trans k (by simp)) (by simp)))
   have cb := iH (fun W (k : Kept wr W []) => between_any b1 A B _ _ la lb W (HA.out.keep (K1.out.trans (HS.out.2.2.trans k (by simp)) (by simp))) (HB.out.keep (K1.out.trans (HS.out.2.2.trans k (by simp)) (by simp))))
   simp only [hd0, hs0, hr0, Ev.cs] at cd cs cb
   obtain ⟨q0, q1, q2, q3, q4, q5, q6, q7⟩ := xqm gz
   clear hx em hwf hW2 k2 gz hd0 hs0 hr0
   go_upto_region 5 with fail
   rw [<- HW2.out]
   clear p0 p1 p2 p3 p4 p5 p6 p7
   go_wp2_with fail
   refine (cd.out W2).mono ?_
   rintro e w3 ⟨rfl, k3⟩
   have K3 := iH (K2.out.trans k3 (by simp))
   have G3 := iH (k3.heap (by simp) GZ.out)
   clear k3 q0 q1 q2 q3 q4 q5 q6 q7
   obtain ⟨q0, q1, q2, q3, q4, q5, q6, q7⟩ := xqm G3.out
   cases d0
   ·go_wp2
    go_roundg (n - (i + 1))
    case measure => omega
    case rel => exact ⟨i + 1, cp, g, l, rfl, by go_num, by omega, by omega, by rw [EN.out (q := false) HX1.out (rfl), <- HS.out.1]; simp, HS.out.2.1.kept K3.out (by simp), HS.out.2.2.trans K3.out (by simp)⟩
   go_wp2_with fail
   refine (cs.out w3 K3.out).mono ?_
   rintro e w4 ⟨rfl, rfl⟩
   by_cases hs2 : s0 = 2
   ·subst hs2
    obtain ⟨y0, y1⟩ := xqq ((HS.out.2.2.trans K3.out (by simp)).heap (by simp) G1.out)
    obtain ⟨y2, y3⟩ := xqq ((HS.out.2.2.trans K3.out (by simp)).heap (by simp) G2.out)
    go_wp2_with fail
    refine (cb.out w3 K3.out).mono ?_
    rintro e w5 ⟨rfl, k5⟩
    have K5 := iH (K3.out.trans k5 (by simp))
    have G5 := iH (k5.heap (by simp) G3.out)
    clear k5 q0 q1 q2 q3 q4 q5 q6 q7 y0 y1 y2 y3
    obtain ⟨q0, q1, q2, q3, q4, q5, q6, q7⟩ := xqm G5.out
    cases r0
    ·go_wp2
     go_roundg (n - (i + 1))
     case measure => omega
     case rel => exact ⟨i + 1, cp, g, l, rfl, by go_num, by omega, by omega, by rw [EN.out (q := false) HX1.out (rfl), <- HS.out.1]; simp, HS.out.2.1.kept K5.out (by simp), HS.out.2.2.trans K5.out (by simp)⟩
    have HO := iH (HS.out.2.1.kept K5.out (by simp))
    have hbz : W1.heap.size <= w5.heap.size := (HS.out.2.2.trans K5.out (by simp)).size
    go_wp2_with ((at_builtin; refine xqe _ rfl (.tmp 37) (.tmp 39) 57 57 rfl W1.heap.size 50 i0 _ 8 80 Tryz.underlying57 I.out.1 I.out.2.1 I.out.2.2.1 I.out.2.2.2 rfl _ l.length (ecs l) rfl ?hown _ 1 (Ev.mk b0 b1 b2 b3 b4 b5 b6 b7).cs.toList rfl (src_ev w5 ⟨b0, b1, b2, b3, b4, b5, b6, b7⟩) (by unfold maxLen; omega) (by omega) (by first | assumption | omega | (simp; omega)) ?next))
    case hown => exact World.ownsRow.alloc HO.out (.cells #[.int .i64 b0, .int .i64 b1, .string b2, .int .i64 b3, .int .i64 b4, .int .u8 b5, .int .i64 b6, .string b7] 50)
    case next =>
    intro v6 w6 hown hgrow; intros
    have ho : OwnE w6 W1.heap.size 50 v6 (l ++ [⟨b0, b1, b2, b3, b4, b5, b6, b7⟩]) := by unfold OwnE; rw [<- yqw, List.length_append]; exact hown
    have hk : Kept W1 w6 [] := ((HS.out.2.2.trans K5.out (by simp)).alloc (.cells #[.int .i64 b0, .int .i64 b1, .string b2, .int .i64 b3, .int .i64 b4, .int .u8 b5, .int .i64 b6, .string b7] 50)).grown hgrow (fun k hk => .inr (HO.out.lt k hk).1)
    obtain ⟨u9, n9, rfl⟩ := ho.shape
    have R := iH (And.intro (show l ++ [⟨b0, b1, b2, b3, b4, b5, b6, b7⟩] = (m.take (i + 1)).filter (told st A la B lb o) from by rw [EN.out (q := true) HX1.out rfl, <- HS.out.1]; rfl) (And.intro ho hk))
    clear hown hgrow ho hk q0 q1 q2 q3 q4 q5 q6 q7
    go_wp2
    go_roundg (n - (i + 1))
    case measure => omega
    case rel => exact ⟨i + 1, _, _, _, rfl, by go_num, by omega, by omega, R.out⟩
   have e2 : ((s0 : Int) == 2) = false := by rw [beq_eq_false_iff_ne]; omega
   have e3 : (s0 == 2) = false := by rw [beq_eq_false_iff_ne]; exact hs2
   have E3 := iH e3
   clear e3 hs2
   go_wp2
   go_roundg (n - (i + 1))
   case measure => omega
   case rel => exact ⟨i + 1, cp, g, l, rfl, by go_num, by omega, by omega, by rw [EN.out (q := false) HX1.out (by rw [E3.out]; rfl), <- HS.out.1]; simp, HS.out.2.1.kept K3.out (by simp), HS.out.2.2.trans K3.out (by simp)⟩
  have x1 : ¬ (i : Int) < (n : Int) := by omega
  have ho := HS.out.2.1
  have HS2 := HS.out.1
  rw [List.take_of_length_le (by rw [<- HN.out]; omega)] at HS2
  have H2 := iH HS2
  have hs := iH (sort_any_g8 ho (by omega))
  clear ho HS2
  go_wp2_with fail
  refine hs.out.mono ?_
  rintro e w2 ⟨rfl, ho2, hf2⟩
  have O2 := iH ho2; have F2 := iH hf2
  have hk2 : Kept w w2 [] := Kept.fo_g8 (K1.out.trans HS.out.2.2 (by simp)) hf2 (fun k hk => by have := (HS.out.2.1.lt k hk).1; have := K1.out.size; omega)
  clear ho2 hf2
  go_wp2
  go_ret
  refine ⟨_, rfl, ?_, hk2⟩
  rw [<- H2.out]
  exact O2.out.mono K1.out.size
theorem rof_any {w : World} {v u : Value} {m : List Ev} {st : List Nat} {A B : Int} {va vb : Value} {la lb : List Int} (o : ByteArray) (hm : RdE w v m) (hl : m.length < 1000000) (hM : RMan w u st) (ha : RdI w va la) (hb : RdI w vb lb) :
 Calls Tryz.prog 122 #[v, u, .agg #[.int .i64 A, va], .agg #[.int .i64 B, vb], .string o] w fun e w' => ∃ v', e = .returned v' /\ OwnE w' w.heap.size 50 v' (srt byId (m.filter (told st A la B lb o))) /\ Kept w w' [] := by
 obtain ⟨a, ca, rfl⟩ := hm.shape3
 have HM := iH hm; have HA := iH ha; have HB := iH hb; have MM := iH hM
 obtain ⟨aa, ac, rfl, _, _, _, _⟩ := ha
 obtain ⟨ba, bc, rfl, _, _, _, _⟩ := hb
 obtain ⟨n, hn⟩ : ∃ n, n = m.length := ⟨_, rfl⟩
 have HN := iH hn
 rw [<- hn] at hl ⊢
 obtain ⟨W1, hW1⟩ : ∃ W1, W1 = (w.alloc (.cells #[.int .i64 A, .slice aa la.length ac] 36)).alloc (.cells #[.int .i64 B, .slice ba lb.length bc] 36) := ⟨_, rfl⟩
 have hz : (w.alloc (.cells #[.int .i64 A, .slice aa la.length ac] 36)).heap.size = w.heap.size + 1 := by simp
 have k1 : Kept w W1 [] := by rw [hW1]; exact ((Kept.refl w []).alloc _).alloc _
 have g1 : W1.heap[w.heap.size]? = some (.cells #[.int .i64 A, .slice aa la.length ac] 36 (0, 0)) := by rw [hW1]; exact ((Kept.refl _ []).alloc _).heap (by simp) (heap_alloc_new w _)
 have g2 : W1.heap[w.heap.size + 1]? = some (.cells #[.int .i64 B, .slice ba lb.length bc] 36 (0, 0)) := by rw [hW1, <- hz]; exact heap_alloc_new _ _
 have zW : W1.heap.size = w.heap.size + 2 := by rw [hW1]; simp
 have HW := iH hW1; have K1 := iH k1; have G1 := iH g1; have G2 := iH g2; have ZW := iH zW
 obtain ⟨i0, hi0, hz0, hz1, hzb⟩ := info_parts Tryz.infoEv_g6
 have I := iH (And.intro hi0 (And.intro hz0 (And.intro hz1 hzb)))
 clear hm hn hW1 hz k1 g1 g2 zW hM hi0 hz0 hz1 hzb
 go_enter Tryz.func122, Tryz.ntmps122
 go_upto_region 1 with fail
 rw [<- HW.out]
 go_wp2
 go_loopg [11, 12] n (fun kx s11 s12 wr => ∃ (i : Nat) (cp : Nat) (g : Option Addr) (l : List Ev), s11 = .slice g l.length cp /\ s12 = .int .i64 i /\ i <= n /\ n - i <= kx /\ RowKit.Hid (l = (m.take i).filter (told st A la B lb o) /\ OwnE wr W1.heap.size 50 (.slice g l.length cp) l /\ Kept W1 wr []))
 case atStart => exact ⟨0, 0, none, [], rfl, rfl, by omega, by omega, rfl, OwnE.nil _ _ _, Kept.refl _ _⟩
 case round =>
  obtain ⟨i, cp, g, l, rfl, rfl, hi, hkx, HS⟩ := hrel
  have hll : l.length < 1000000 := by have := filter_len (P := told st A la B lb o) m i; rw [<- HS.out.1, <- HN.out] at this; omega
  by_cases hlt : i < n
  ·have x1 : (i : Int) < (n : Int) := by omega
   obtain ⟨x, hx⟩ : ∃ r, m[i]? = some r := ⟨_, List.getElem?_eq_getElem (by rw [<- HN.out]; exact hlt)⟩
   have em := HM.out.kept (K1.out.trans HS.out.2.2 (by simp)) (by simp)
   rw [<- HN.out] at em
   obtain ⟨bm, om, rfl, f⟩ := em.eight hx
   obtain ⟨b0, b1, b2, b3, b4, b5, b6, b7⟩ := x
   obtain ⟨p0, p1, p2, p3, p4, p5, p6, p7⟩ := f
   simp only at p0 p1 p2 p3 p4 p5 p6 p7
   have HX1 := iH hx
   obtain ⟨W2, hW2⟩ : ∃ W2, W2 = wr.alloc (.cells #[.int .i64 b0, .int .i64 b1, .string b2, .int .i64 b3, .int .i64 b4, .int .u8 b5, .int .i64 b6, .string b7] 50) := ⟨_, rfl⟩
   have k2 : Kept wr W2 [] := by rw [hW2]; exact (Kept.refl wr []).alloc _
   have gz : W2.heap[wr.heap.size]? = some (.cells #[.int .i64 b0, .int .i64 b1, .string b2, .int .i64 b3, .int .i64 b4, .int .u8 b5, .int .i64 b6, .string b7] 50 (0, 0)) := by rw [hW2]; exact heap_alloc_new wr _
   have HW2 := iH hW2; have K2 := iH k2; have GZ := iH gz
   obtain ⟨d0, hd0⟩ : ∃ d, dueB b2 o = d := ⟨_, rfl⟩
   obtain ⟨s0, hs0⟩ : ∃ s, stAt st b1 = s := ⟨_, rfl⟩
   obtain ⟨r1, hr1⟩ : ∃ r, xqv B lb b1 = r := ⟨_, rfl⟩
   obtain ⟨r0, hr0⟩ : ∃ r, xqv A la b1 = r := ⟨_, rfl⟩
   have EN : RowKit.Hid (∀ {q : Bool}, m[i]? = some ⟨b0, b1, b2, b3, b4, b5, b6, b7⟩ -> (d0 && (s0 == 2 && (r1 && !r0))) = q -> (m.take (i + 1)).filter (told st A la B lb o) = (m.take i).filter (told st A la B lb o) ++ (if q then [⟨b0, b1, b2, b3, b4, b5, b6, b7⟩] else [])) := iH (fun h1 h2 => by
    rw [filter_take h1, <- h2]; simp only [told, betw, hd0, hs0, hr0, hr1])
   have cd := iH (fun W => refdue_any ⟨b0, b1, b2, b3, b4, b5, b6, b7⟩ o W)
   have cs := iH (fun W (k : Kept wr W []) => MM.out b1 W (K1.out.trans (HS.out.2.2.trans k (by simp)) (by simp)))
   have cb := iH (fun W (k : Kept wr W []) => rsees_any B b1 _ lb W (HB.out.keep (K1.out.trans (HS.out.2.2.trans k (by simp)) (by simp))))
   have ca := iH (fun W (k : Kept wr W []) => rsees_any A b1 _ la W (HA.out.keep (K1.out.trans (HS.out.2.2.trans k (by simp)) (by simp))))
   simp only [hd0, hs0, hr0, hr1, Ev.cs] at cd cs cb ca
   obtain ⟨q0, q1, q2, q3, q4, q5, q6, q7⟩ := xqm gz
   clear hx em hW2 k2 gz hd0 hs0 hr0 hr1
   go_upto_region 6 with fail
   rw [<- HW2.out]
   clear p0 p1 p2 p3 p4 p5 p6 p7
   go_wp2_with fail
   refine (cd.out W2).mono ?_
   rintro e w3 ⟨rfl, k3⟩
   have K3 := iH (K2.out.trans k3 (by simp))
   have G3 := iH (k3.heap (by simp) GZ.out)
   clear k3 q0 q1 q2 q3 q4 q5 q6 q7
   obtain ⟨q0, q1, q2, q3, q4, q5, q6, q7⟩ := xqm G3.out
   cases d0
   ·go_wp2
    go_roundg (n - (i + 1))
    case measure => omega
    case rel => exact ⟨i + 1, cp, g, l, rfl, by go_num, by omega, by omega, by rw [EN.out (q := false) HX1.out (rfl), <- HS.out.1]; simp, HS.out.2.1.kept K3.out (by simp), HS.out.2.2.trans K3.out (by simp)⟩
   go_wp2_with fail
   refine (cs.out w3 K3.out).mono ?_
   rintro e w4 ⟨rfl, rfl⟩
   by_cases hs2 : s0 = 2
   ·subst hs2
    obtain ⟨y2, y3⟩ := xqq ((HS.out.2.2.trans K3.out (by simp)).heap (by simp) G2.out)
    go_wp2_with fail
    refine (cb.out w3 K3.out).mono ?_
    rintro e w5 ⟨rfl, k5⟩
    have K5 := iH (K3.out.trans k5 (by simp))
    have G5 := iH (k5.heap (by simp) G3.out)
    clear k5 q0 q1 q2 q3 q4 q5 q6 q7 y2 y3
    obtain ⟨q0, q1, q2, q3, q4, q5, q6, q7⟩ := xqm G5.out
    cases r1
    ·go_wp2
     go_roundg (n - (i + 1))
     case measure => omega
     case rel => exact ⟨i + 1, cp, g, l, rfl, by go_num, by omega, by omega, by rw [EN.out (q := false) HX1.out (by simp), <- HS.out.1]; simp, HS.out.2.1.kept K5.out (by simp), HS.out.2.2.trans K5.out (by simp)⟩
    obtain ⟨y0, y1⟩ := xqq ((HS.out.2.2.trans K5.out (by simp)).heap (by simp) G1.out)
    go_wp2_with fail
    refine (ca.out w5 K5.out).mono ?_
    rintro e w7 ⟨rfl, k7⟩
    have K7 := iH (K5.out.trans k7 (by simp))
    have G7 := iH (k7.heap (by simp) G5.out)
    clear k7 q0 q1 q2 q3 q4 q5 q6 q7 y0 y1
    obtain ⟨q0, q1, q2, q3, q4, q5, q6, q7⟩ := xqm G7.out
    cases r0
    ·have HO := iH (HS.out.2.1.kept K7.out (by simp))
     have hbz : W1.heap.size <= w7.heap.size := (HS.out.2.2.trans K7.out (by simp)).size
     go_wp2_with ((at_builtin; refine xqe _ rfl (.tmp 47) (.tmp 49) 57 57 rfl W1.heap.size 50 i0 _ 8 80 Tryz.underlying57 I.out.1 I.out.2.1 I.out.2.2.1 I.out.2.2.2 rfl _ l.length (ecs l) rfl ?hown _ 1 (Ev.mk b0 b1 b2 b3 b4 b5 b6 b7).cs.toList rfl (src_ev w7 ⟨b0, b1, b2, b3, b4, b5, b6, b7⟩) (by unfold maxLen; omega) (by omega) (by first | assumption | omega | (simp; omega)) ?next))
     case hown => exact World.ownsRow.alloc HO.out (.cells #[.int .i64 b0, .int .i64 b1, .string b2, .int .i64 b3, .int .i64 b4, .int .u8 b5, .int .i64 b6, .string b7] 50)
     case next =>
     intro v6 w6 hown hgrow; intros
     have ho : OwnE w6 W1.heap.size 50 v6 (l ++ [⟨b0, b1, b2, b3, b4, b5, b6, b7⟩]) := by unfold OwnE; rw [<- yqw, List.length_append]; exact hown
     have hk : Kept W1 w6 [] := ((HS.out.2.2.trans K7.out (by simp)).alloc (.cells #[.int .i64 b0, .int .i64 b1, .string b2, .int .i64 b3, .int .i64 b4, .int .u8 b5, .int .i64 b6, .string b7] 50)).grown hgrow (fun k hk => .inr (HO.out.lt k hk).1)
     obtain ⟨u9, n9, rfl⟩ := ho.shape
     have R := iH (And.intro (show l ++ [⟨b0, b1, b2, b3, b4, b5, b6, b7⟩] = (m.take (i + 1)).filter (told st A la B lb o) from by rw [EN.out (q := true) HX1.out rfl, <- HS.out.1]; rfl) (And.intro ho hk))
     clear hown hgrow ho hk q0 q1 q2 q3 q4 q5 q6 q7
     go_wp2
     go_roundg (n - (i + 1))
     case measure => omega
     case rel => exact ⟨i + 1, _, _, _, rfl, by go_num, by omega, by omega, R.out⟩
    go_wp2
    go_roundg (n - (i + 1))
    case measure => omega
    case rel => exact ⟨i + 1, cp, g, l, rfl, by go_num, by omega, by omega, by rw [EN.out (q := false) HX1.out (by simp), <- HS.out.1]; simp, HS.out.2.1.kept K7.out (by simp), HS.out.2.2.trans K7.out (by simp)⟩
   have e2 : ((s0 : Int) == 2) = false := by rw [beq_eq_false_iff_ne]; omega
   have e3 : (s0 == 2) = false := by rw [beq_eq_false_iff_ne]; exact hs2
   have E3 := iH e3
   clear e3 hs2
   go_wp2
   go_roundg (n - (i + 1))
   case measure => omega
   case rel => exact ⟨i + 1, cp, g, l, rfl, by go_num, by omega, by omega, by rw [EN.out (q := false) HX1.out (by rw [E3.out]; rfl), <- HS.out.1]; simp, HS.out.2.1.kept K3.out (by simp), HS.out.2.2.trans K3.out (by simp)⟩
  have x1 : ¬ (i : Int) < (n : Int) := by omega
  have ho := HS.out.2.1
  have HS2 := HS.out.1
  rw [List.take_of_length_le (by rw [<- HN.out]; omega)] at HS2
  have H2 := iH HS2
  have hs := iH (rsort_any ho.rd (by omega))
  clear ho HS2
  go_wp2_with fail
  refine hs.out.mono ?_
  rintro e w2 ⟨v2, rfl, ho2, hf2⟩
  have O2 := iH ho2; have F2 := iH hf2
  obtain ⟨u2, n2, hv2⟩ := ho2.shape
  have hk2 : Kept w w2 [] := (K1.out.trans HS.out.2.2 (by simp)).trans hf2 (by simp)
  have hsz : w.heap.size <= wr.heap.size := (K1.out.trans HS.out.2.2 (by simp)).size
  subst hv2
  clear ho2 hf2
  go_wp2
  go_ret
  refine ⟨_, rfl, ?_, hk2⟩
  rw [<- H2.out]
  exact O2.out.mono hsz
structure Sv where
 M : Int
 v : Value
 l : List Int
def RdS (w : World) (v : Value) (ss : List Sv) : Prop :=
 ∃ a c, v = .slice a ss.length c /\ (∀ i s, ss[i]? = some s -> ∃ b o, a = some ⟨b, o, none⟩ /\ w.cell? ⟨b, o + i * 2, none⟩ = some (.int .i64 s.M) /\ w.cell? ⟨b, o + i * 2 + 1, none⟩ = some s.v) /\ ∀ s ∈ ss, RdI w s.v s.l
theorem RdS.keep {w w' : World} {v : Value} {ss : List Sv} (h : RdS w v ss) (k : Kept w w' []) : RdS w' v ss := by
 obtain ⟨a, c, rfl, h1, h2⟩ := h
 refine ⟨a, c, rfl, fun i s hs => ?_, fun s hs => (h2 s hs).keep k⟩
 obtain ⟨b, o, rfl, c0, c1⟩ := h1 i s hs
 exact ⟨b, o, rfl, k.cell (by simp) c0, k.cell (by simp) c1⟩
theorem RdS.all {w : World} {v : Value} {ss : List Sv} (h : RdS w v ss) : ∀ s ∈ ss, RdI w s.v s.l := by
 obtain ⟨_, _, _, _, h2⟩ := h
 exact h2
def idxB {α : Type} (P : α -> Bool) (l : List α) : Int := match l.findIdx? P with | some i => i | none => -1
theorem idx_hit {α : Type} {P : α -> Bool} {l : List α} {k : Nat} {r : α} (hr : l[k]? = some r) (hp : P r = true) (hb : ∀ j s, j < k -> l[j]? = some s -> P s = false) : idxB P l = k := by
 obtain ⟨hk, e⟩ := List.getElem?_eq_some_iff.1 hr
 have : l.findIdx? P = some k := by
  rw [List.findIdx?_eq_some_iff_getElem]
  refine ⟨hk, by rw [e]; exact hp, fun j hj => ?_⟩
  rw [hb j l[j] hj (List.getElem?_eq_getElem _)]
  simp
 rw [idxB, this]
theorem idx_miss {α : Type} {P : α -> Bool} {l : List α} (hb : ∀ j s, j < l.length -> l[j]? = some s -> P s = false) : idxB P l = -1 := by
 have : l.findIdx? P = none := by
  rw [List.findIdx?_eq_none_iff]
  intro s hs
  obtain ⟨j, hj, e⟩ := List.mem_iff_getElem.1 hs
  exact hb j s hj (by rw [List.getElem?_eq_getElem hj, e])
 rw [idxB, this]
theorem idx_any {α : Type} (P : α -> Bool) (l : List α) : (decide (idxB P l ≥ 0)) = l.any P := by
 unfold idxB
 cases h : l.findIdx? P with
 | some i =>
 have : l.any P = true := by
  obtain ⟨hi, hp, _⟩ := List.findIdx?_eq_some_iff_getElem.1 h
  exact List.any_eq_true.2 ⟨l[i], List.getElem_mem hi, hp⟩
 rw [this]; simp
 | none =>
 have : l.any P = false := by
  rw [List.findIdx?_eq_none_iff] at h
  rw [List.any_eq_false]
  intro x hx
  simp [h x hx]
 rw [this]; simp
def PaysS (w : World) (ss : List Sv) (c : Nat) (lb : Array Value) (P : Sv -> Bool) : Prop :=
 ∀ (s : Sv) (V : World), s ∈ ss -> Kept w V [] -> Calls Tryz.prog c (#[.agg #[.int .i64 s.M, s.v]] ++ lb) V fun e w' => e = .returned (.bool (P s)) /\ Kept V w' []
def PaysV (w : World) (l : List Ev) (c : Nat) (lb : Array Value) (P : Ev -> Bool) : Prop :=
 ∀ (r : Ev) (V : World), r ∈ l -> Kept w V [] -> Calls Tryz.prog c (#[.agg r.cs] ++ lb) V fun e w' => e = .returned (.bool (P r)) /\ Kept V w' []
theorem sindex_any {w : World} {sv : Value} {l : List Sv} (ho : RdS w sv l) (hlen : l.length < 1000000) (c : Nat) (lb : Array Value) (P : Sv -> Bool) (ec : ∀ args w, (callFunc c args).run Tryz.prog w = .ok (.enter c args) w) (hc : PaysS w l c lb P) :
 Calls Tryz.prog 216 #[sv, .func (.func c) #[] lb] w fun e w' => e = .returned (.int .i64 (idxB P l)) /\ Kept w w' [] := by
 have HO := iH ho
 have HC := iH hc
 obtain ⟨a, cp, rfl, _⟩ := ho
 clear hc
 go_enter Tryz.func216, Tryz.ntmps216
 go_wp2
 go_loopw [5, 8] (fun _ t wr => ∃ k : Nat, t = .int .i64 k /\ k <= l.length /\ Kept w wr [] /\ (∀ j s, j < k -> l[j]? = some s -> P s = false)) (fun _ t _ => l.length - (intOf t).toNat)
 case atStart => exact ⟨0, rfl, Nat.zero_le _, Kept.refl w [], fun j s hj => absurd hj (Nat.not_lt_zero _)⟩
 case round =>
  obtain ⟨k, rfl, hk, hkw, hx⟩ := hrel
  have Hx := iH hx; have K := iH hkw
  clear hx hkw
  by_cases hlt : k < l.length
  ·obtain ⟨r, hr⟩ : ∃ r, l[k]? = some r := ⟨_, List.getElem?_eq_getElem hlt⟩
   obtain ⟨a', c', e', h1, h2⟩ := HO.out.keep K.out
   simp only [Value.slice.injEq, true_and] at e'
   obtain ⟨rfl, rfl⟩ := e'
   obtain ⟨b, o, rfl, c0, c1⟩ := h1 k r hr
   have rv := h2 r (List.mem_of_getElem? hr)
   have HR := iH hr
   have x1 : (k : Int) < (l.length : Int) := by omega
   have call := HC.out r wr (List.mem_of_getElem? hr) K.out
   obtain ⟨q, hq⟩ : ∃ q, P r = q := ⟨_, rfl⟩
   rw [hq] at call
   have HQ := iH hq
   obtain ⟨M, v, m⟩ := r
   simp only at c0 c1 call rv
   obtain ⟨va, vc, hv, _⟩ := rv
   subst hv
   clear hr hq h1 h2
   cases q
   ·go_wp2_with (go_at_fn c; refine call.mono ?_; rintro e w2 ⟨rfl, k2⟩)
    go_roundw
    case rel =>
     refine ⟨k + 1, by go_num, by omega, K.out.trans k2 (by simp), fun j s hj hs => ?_⟩
     by_cases e : j = k
     ·subst e
      rw [HR.out] at hs
      cases hs
      exact HQ.out
     exact Hx.out j s (by omega) hs
    case measure => simp [intOf]; omega
   have R : RowKit.Hid (idxB P l = k) := iH (idx_hit HR.out HQ.out Hx.out)
   go_wp2_with (go_at_fn c; refine call.mono ?_; rintro e w2 ⟨rfl, k2⟩)
   go_ret
   rw [R.out]
   exact ⟨rfl, K.out.trans k2 (by simp)⟩
  have R : RowKit.Hid (idxB P l = -1) := iH (idx_miss (fun j s hj => Hx.out j s (by omega)))
  have x1 : ¬ (k : Int) < (l.length : Int) := by omega
  go_wp2
  go_ret
  rw [R.out]
  exact ⟨rfl, K.out⟩
theorem vindex_any {w : World} {sv : Value} {l : List Ev} (ho : RdE w sv l) (hlen : l.length < 1000000) (c : Nat) (lb : Array Value) (P : Ev -> Bool) (ec : ∀ args w, (callFunc c args).run Tryz.prog w = .ok (.enter c args) w) (hc : PaysV w l c lb P) :
 Calls Tryz.prog 99 #[sv, .func (.func c) #[] lb] w fun e w' => e = .returned (.int .i64 (idxB P l)) /\ Kept w w' [] := by
 have HC := iH hc
 obtain ⟨a, cp, rfl⟩ := ho.shape3
 have HO := iH ho
 clear hc ho
 go_enter Tryz.func99, Tryz.ntmps99
 go_wp2
 go_loopw [5, 8] (fun _ t wr => ∃ k : Nat, t = .int .i64 k /\ k <= l.length /\ Kept w wr [] /\ (∀ j s, j < k -> l[j]? = some s -> P s = false)) (fun _ t _ => l.length - (intOf t).toNat)
 case atStart => exact ⟨0, rfl, Nat.zero_le _, Kept.refl w [], fun j s hj => absurd hj (Nat.not_lt_zero _)⟩
 case round =>
  obtain ⟨k, rfl, hk, hkw, hx⟩ := hrel
  have Hx := iH hx; have K := iH hkw
  clear hx hkw
  by_cases hlt : k < l.length
  ·obtain ⟨r, hr⟩ : ∃ r, l[k]? = some r := ⟨_, List.getElem?_eq_getElem hlt⟩
   obtain ⟨b, o, rfl, c0, c1, c2, c3, c4, c5, c6, c7⟩ := (HO.out.kept K.out (by simp)).eight hr
   have HR := iH hr
   have x1 : (k : Int) < (l.length : Int) := by omega
   have call := HC.out r wr (List.mem_of_getElem? hr) K.out
   obtain ⟨q, hq⟩ : ∃ q, P r = q := ⟨_, rfl⟩
   rw [hq] at call
   have HQ := iH hq
   clear hr hq
   obtain ⟨b0, b1, b2, b3, b4, b5, b6, b7⟩ := r
   simp only [Ev.cs] at c0 c1 c2 c3 c4 c5 c6 c7 call
   cases q
   ·go_wp2_with (go_at_fn c; refine call.mono ?_; rintro e w2 ⟨rfl, k2⟩)
    go_roundw
    case rel =>
     refine ⟨k + 1, by go_num, by omega, K.out.trans k2 (by simp), fun j s hj hs => ?_⟩
     by_cases e : j = k
     ·subst e
      rw [HR.out] at hs
      cases hs
      exact HQ.out
     exact Hx.out j s (by omega) hs
    case measure => simp [intOf]; omega
   have R : RowKit.Hid (idxB P l = k) := iH (idx_hit HR.out HQ.out Hx.out)
   go_wp2_with (go_at_fn c; refine call.mono ?_; rintro e w2 ⟨rfl, k2⟩)
   go_ret
   rw [R.out]
   exact ⟨rfl, K.out.trans k2 (by simp)⟩
  have R : RowKit.Hid (idxB P l = -1) := iH (idx_miss (fun j s hj => Hx.out j s (by omega)))
  have x1 : ¬ (k : Int) < (l.length : Int) := by omega
  go_wp2
  go_ret
  rw [R.out]
  exact ⟨rfl, K.out⟩
theorem scontains_any {w : World} {sv : Value} {l : List Sv} (ho : RdS w sv l) (hlen : l.length < 1000000) (c : Nat) (lb : Array Value) (P : Sv -> Bool) (ec : ∀ args w, (callFunc c args).run Tryz.prog w = .ok (.enter c args) w) (hc : PaysS w l c lb P) :
 Calls Tryz.prog 195 #[sv, .func (.func c) #[] lb] w fun e w' => e = .returned (.bool (l.any P)) /\ Kept w w' [] := by
 have H := iH (sindex_any ho hlen c lb P ec hc)
 obtain ⟨a, cp, rfl, _⟩ := ho
 have R := iH (idx_any P l)
 generalize idxB P l = x at H R
 generalize l.any P = y at R ⊢
 clear hc
 go_enter Tryz.func195, Tryz.ntmps195
 go_wp2_with fail
 refine H.out.mono ?_
 rintro e w1 ⟨rfl, k1⟩
 go_wp2
 go_ret
 exact ⟨by rw [<- R.out]; rfl, k1⟩
theorem vcontains_any {w : World} {sv : Value} {l : List Ev} (ho : RdE w sv l) (hlen : l.length < 1000000) (c : Nat) (lb : Array Value) (P : Ev -> Bool) (ec : ∀ args w, (callFunc c args).run Tryz.prog w = .ok (.enter c args) w) (hc : PaysV w l c lb P) :
 Calls Tryz.prog 164 #[sv, .func (.func c) #[] lb] w fun e w' => e = .returned (.bool (l.any P)) /\ Kept w w' [] := by
 have H := iH (vindex_any ho hlen c lb P ec hc)
 obtain ⟨a, cp, rfl⟩ := ho.shape3
 have R := iH (idx_any P l)
 generalize idxB P l = x at H R
 generalize l.any P = y at R ⊢
 clear hc ho
 go_enter Tryz.func164, Tryz.ntmps164
 go_wp2_with fail
 refine H.out.mono ?_
 rintro e w1 ⟨rfl, k1⟩
 go_wp2
 go_ret
 exact ⟨by rw [<- R.out]; rfl, k1⟩
def yqq (st : List Nat) (ss : List Sv) (e : Ev) : Bool := stAt st e.tx == 1 || (stAt st e.tx == 2 && ss.any fun s => !xqv s.M s.l e.tx)
theorem needs1_pays {w : World} {ss : List Sv} {e : Ev} {z : Nat} (hs : ∀ s ∈ ss, RdI w s.v s.l) (hz : w.heap[z]? = some (.cells e.cs 50 (0, 0))) :
 PaysS w ss 196 #[.pointer (some ⟨z, 0, none⟩)] (fun s => !xqv s.M s.l e.tx) := by
 intro s V hsm k
 have rv := (hs s hsm).keep k
 have g := k.heap (by simp) hz
 obtain ⟨M, v, m⟩ := s
 obtain ⟨b0, b1, b2, b3, b4, b5, b6, b7⟩ := e
 simp only at rv ⊢
 obtain ⟨q, hq⟩ : ∃ q, xqv M m b1 = q := ⟨_, rfl⟩
 have HQ := iH hq
 rw [hq]
 have RV := iH rv
 obtain ⟨va, vc, hv, _⟩ := rv
 subst hv
 obtain ⟨W1, hW1⟩ : ∃ W1, W1 = V.alloc (.cells #[.int .i64 M, .slice va m.length vc] 36) := ⟨_, rfl⟩
 have k1 : Kept V W1 [] := by rw [hW1]; exact (Kept.refl V []).alloc _
 have g1 : W1.heap[V.heap.size]? = some (.cells #[.int .i64 M, .slice va m.length vc] 36 (0, 0)) := by rw [hW1]; exact heap_alloc_new V _
 obtain ⟨q0, q1, q2, q3, q4, q5, q6, q7⟩ := xqm (k1.heap (by simp) g)
 obtain ⟨y0, y1⟩ := xqq g1
 have hc := iH (by have := sees_any M b1 _ m W1 (RV.out.keep k1); rw [HQ.out] at this; exact this)
 have K1 := iH k1; have HW1 := iH hW1
 clear hs hz hsm k g hq k1 hW1 g1
 show Calls _ _ #[.agg #[.int .i64 M, .slice va m.length vc], .pointer (some ⟨z, 0, none⟩)] _ _
 go_enter Tryz.func196, Tryz.ntmps196
 go_upto_region 1 with fail
 rw [<- HW1.out]
 go_wp2_with fail
 refine hc.out.mono ?_
 rintro e w1 ⟨rfl, k1⟩
 have K2 := iH (K1.out.trans k1 (by simp))
 clear k1
 go_wp2
 go_ret
 exact ⟨rfl, K2.out⟩
theorem bneeds_any {w : World} {u sv : Value} {ss : List Sv} {st : List Nat} (e : Ev) (hM : Man w u st) (hs : RdS w sv ss) (hl : ss.length < 1000000) (hx : (Lit.int .i64 e.tx).wf = true) :
 Calls Tryz.prog 166 #[.agg e.cs, u, sv] w fun r w' => r = .returned (.bool (yqq st ss e)) /\ Kept w w' [] := by
 obtain ⟨W1, hW1⟩ : ∃ W1, W1 = w.alloc (.cells e.cs 50) := ⟨_, rfl⟩
 have k1 : Kept w W1 [] := by rw [hW1]; exact (Kept.refl w []).alloc _
 have g1 : W1.heap[w.heap.size]? = some (.cells e.cs 50 (0, 0)) := by rw [hW1]; exact heap_alloc_new w _
 have hP := needs1_pays ((hs.keep k1).all) g1
 have hc := iH (scontains_any (hs.keep k1) hl 196 _ _ (enters_of Tryz.func196 (by kernel_rfl) rfl) hP)
 have hS := iH (hM e.tx W1 hx k1)
 have K1 := iH k1; have HW1 := iH hW1
 obtain ⟨a, cp, rfl, _⟩ := hs
 unfold yqq
 generalize (ss.any fun s => !xqv s.M s.l e.tx) = y at hc ⊢
 generalize stAt st e.tx = s0 at hS ⊢
 obtain ⟨b0, b1, b2, b3, b4, b5, b6, b7⟩ := e
 obtain ⟨q0, q1, q2, q3, q4, q5, q6, q7⟩ := xqm g1
 simp only [Ev.cs] at hc hS HW1 ⊢
 clear hM hl hx hW1 k1 g1 hP
 go_enter Tryz.func166, Tryz.ntmps166
 go_upto_region 1 with fail
 rw [<- HW1.out]
 go_wp2_with fail
 refine hS.out.mono ?_
 rintro r w2 ⟨rfl, rfl⟩
 by_cases h1 : s0 = 1
 ·subst h1
  go_wp2
  go_ret
  exact ⟨by simp, K1.out⟩
 ·have e1 : ((s0 : Int) == 1) = false := by rw [beq_eq_false_iff_ne]; omega
  have n1 : (s0 == 1) = false := by rw [beq_eq_false_iff_ne]; exact h1
  have N1 := iH n1
  clear n1 h1
  by_cases h2 : s0 = 2
  ·subst h2
   go_wp2_with fail
   refine hc.out.mono ?_
   rintro r w3 ⟨rfl, k3⟩
   go_wp2
   go_ret
   exact ⟨by simp, K1.out.trans k3 (by simp)⟩
  have e2 : ((s0 : Int) == 2) = false := by rw [beq_eq_false_iff_ne]; omega
  have n2 : (s0 == 2) = false := by rw [beq_eq_false_iff_ne]; exact h2
  have N2 := iH n2
  clear n2 h2
  go_wp2
  go_ret
  exact ⟨by rw [N1.out, N2.out]; rfl, K1.out⟩
theorem free1_pays {w : World} {x : Option Addr} {sv : Value} {ss : List Sv} {st : List Nat} {l : List Ev} {z1 z2 : Nat} (hM : Man w (.pointer x) st) (hs : RdS w sv ss) (hl : ss.length < 1000000) (hx : ∀ e ∈ l, (Lit.int .i64 e.tx).wf = true)
 (h1 : w.heap[z1]? = some (.cells #[.pointer x] 30 (0, 0))) (h2 : w.heap[z2]? = some (.cells #[sv] 157 (0, 0))) :
 PaysV w l 165 #[.pointer (some ⟨z1, 0, none⟩), .pointer (some ⟨z2, 0, none⟩)] (yqq st ss) := by
 intro e V he k
 obtain ⟨W1, hW1⟩ : ∃ W1, W1 = V.alloc (.cells e.cs 50) := ⟨_, rfl⟩
 have k1 : Kept V W1 [] := by rw [hW1]; exact (Kept.refl V []).alloc _
 have g1 : W1.heap[V.heap.size]? = some (.cells e.cs 50 (0, 0)) := by rw [hW1]; exact heap_alloc_new V _
 have kk := k.trans k1 (by simp)
 have hc := iH (bneeds_any e (hM.keep kk) (hs.keep kk) hl (hx e he))
 have c1 : W1.cell? ⟨z1, 0, none⟩ = some (.pointer x) := by rw [cell_of_row _ _ _ _ _ _ (kk.heap (by simp) h1)]; rfl
 have c2 : W1.cell? ⟨z2, 0, none⟩ = some sv := by rw [cell_of_row _ _ _ _ _ _ (kk.heap (by simp) h2)]; rfl
 have K1 := iH k1; have HW1 := iH hW1
 obtain ⟨a, cp, rfl, _⟩ := hs
 generalize yqq st ss e = y at hc ⊢
 obtain ⟨b0, b1, b2, b3, b4, b5, b6, b7⟩ := e
 obtain ⟨q0, q1, q2, q3, q4, q5, q6, q7⟩ := xqm g1
 simp only [Ev.cs] at hc HW1
 clear hM hl hx hW1 k1 g1 h1 h2 he k kk
 show Calls _ _ #[.agg #[.int .i64 b0, .int .i64 b1, .string b2, .int .i64 b3, .int .i64 b4, .int .u8 b5, .int .i64 b6, .string b7], .pointer (some ⟨z1, 0, none⟩), .pointer (some ⟨z2, 0, none⟩)] _ _
 go_enter Tryz.func165, Tryz.ntmps165
 go_upto_region 1 with fail
 rw [<- HW1.out]
 go_wp2_with fail
 refine hc.out.mono ?_
 rintro r w2 ⟨rfl, k2⟩
 go_wp2
 go_ret
 exact ⟨rfl, K1.out.trans k2 (by simp)⟩
def freeB (st : List Nat) (ss : List Sv) (l : List Ev) : Bool := !l.any (yqq st ss)
theorem bfree_any {w : World} {x : Option Addr} {v sv : Value} {ss : List Sv} {st : List Nat} {l : List Ev} (hv : RdE w v l) (hn : l.length < 1000000) (hM : Man w (.pointer x) st) (hs : RdS w sv ss) (hl : ss.length < 1000000) (hx : ∀ e ∈ l, (Lit.int .i64 e.tx).wf = true) :
 Calls Tryz.prog 108 #[v, .pointer x, sv] w fun r w' => r = .returned (.bool (freeB st ss l)) /\ Kept w w' [] := by
 obtain ⟨a, cp, rfl, hs2⟩ := hs
 have hs : RdS w (.slice a ss.length cp) ss := ⟨a, cp, rfl, hs2⟩
 obtain ⟨W1, hW1⟩ : ∃ W1, W1 = (w.alloc (.cells #[.pointer x] 30)).alloc (.cells #[.slice a ss.length cp] 157) := ⟨_, rfl⟩
 have hz : (w.alloc (.cells #[.pointer x] 30)).heap.size = w.heap.size + 1 := by simp
 have k1 : Kept w W1 [] := by rw [hW1]; exact ((Kept.refl w []).alloc _).alloc _
 have g1 : W1.heap[w.heap.size]? = some (.cells #[.pointer x] 30 (0, 0)) := by rw [hW1]; exact ((Kept.refl _ []).alloc _).heap (by simp) (heap_alloc_new w _)
 have g2 : W1.heap[w.heap.size + 1]? = some (.cells #[.slice a ss.length cp] 157 (0, 0)) := by rw [hW1, <- hz]; exact heap_alloc_new _ _
 have hP := free1_pays (hM.keep k1) (hs.keep k1) hl hx g1 g2
 have hc := iH (vcontains_any (hv.kept k1 (by simp)) hn 165 _ _ (enters_of Tryz.func165 (by kernel_rfl) rfl) hP)
 obtain ⟨va, vc, rfl⟩ := hv.shape3
 unfold freeB
 generalize l.any (yqq st ss) = y at hc ⊢
 have K1 := iH k1; have HW1 := iH hW1
 clear hv hn hM hs hs2 hl hx hW1 hz k1 g1 g2 hP
 go_enter Tryz.func108, Tryz.ntmps108
 go_upto_region 1 with fail
 rw [<- HW1.out]
 go_wp2_with fail
 refine hc.out.mono ?_
 rintro r w2 ⟨rfl, k2⟩
 go_wp2
 go_ret
 exact ⟨rfl, K1.out.trans k2 (by simp)⟩
end Go.Proofs.YticiofkiffgclaaGreat
