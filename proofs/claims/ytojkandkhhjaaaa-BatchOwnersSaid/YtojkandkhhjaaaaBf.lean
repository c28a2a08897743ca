/-
  The contract of Of, of the document.
-/
import Derived.Test.YtojkandkhhjaaaaBe
namespace Go.Proofs.Ytojkandkhhjaaaa
set_option linter.unusedVariables false
open Go.RowKit Go.Maps

set_option maxHeartbeats 2000000 in
set_option maxRecDepth 100000 in
theorem rof_any {w : World} {v u : Value} {m : List Ev} {st : List Nat} {A B : Int} {va vb : Value} {la lb : List Int} (o : ByteArray) (hm : RdE w v m) (hl : m.length < 1000000) (hM : RMan w u st) (ha : RdI w va la) (hb : RdI w vb lb) :
    Calls Try.prog 15 #[v, u, .agg #[.int .i64 A, va], .agg #[.int .i64 B, vb], .string o] w fun e w' => ∃ v', e = .returned v' ∧ OwnE w' w.heap.size 42 v' (srt byId (m.filter (told st A la B lb o))) ∧ Kept w w' [] := by
  obtain ⟨a, ca, rfl⟩ := hm.shape3
  have HM := Lib.hid hm; have HA := Lib.hid ha; have HB := Lib.hid hb; have MM := Lib.hid hM
  obtain ⟨aa, ac, rfl, _, _, _, _⟩ := ha
  obtain ⟨ba, bc, rfl, _, _, _, _⟩ := hb
  obtain ⟨n, hn⟩ : ∃ n, n = m.length := ⟨_, rfl⟩
  have HN := Lib.hid hn
  rw [← hn] at hl ⊢
  obtain ⟨W1, hW1⟩ : ∃ W1, W1 = (w.alloc (.cells #[.int .i64 A, .slice aa la.length ac] 31)).alloc (.cells #[.int .i64 B, .slice ba lb.length bc] 31) := ⟨_, rfl⟩
  have hz : (w.alloc (.cells #[.int .i64 A, .slice aa la.length ac] 31)).heap.size = w.heap.size + 1 := by simp
  have k1 : Kept w W1 [] := by rw [hW1]; exact ((Kept.refl w []).alloc _).alloc _
  have g1 : W1.heap[w.heap.size]? = some (.cells #[.int .i64 A, .slice aa la.length ac] 31 (0, 0)) := by rw [hW1]; exact ((Kept.refl _ []).alloc _).heap (by simp) (heap_alloc_new w _)
  have g2 : W1.heap[w.heap.size + 1]? = some (.cells #[.int .i64 B, .slice ba lb.length bc] 31 (0, 0)) := by rw [hW1, ← hz]; exact heap_alloc_new _ _
  have zW : W1.heap.size = w.heap.size + 2 := by rw [hW1]; simp
  have HW := Lib.hid hW1; have K1 := Lib.hid k1; have G1 := Lib.hid g1; have G2 := Lib.hid g2; have ZW := Lib.hid zW
  obtain ⟨i0, hi0, hz0, hz1, hzb⟩ := info_parts Try.infoEv
  have I := Lib.hid (And.intro hi0 (And.intro hz0 (And.intro hz1 hzb)))
  clear hm hn hW1 hz k1 g1 g2 zW hM hi0 hz0 hz1 hzb
  go_enter Try.func15, Try.ntmps15
  go_upto_region 1 with fail
  rw [← HW.out]
  go_wp2
  go_loopg [11, 12] n (fun kx s11 s12 wr => ∃ (i : Nat) (cp : Nat) (g : Option Addr) (l : List Ev), s11 = .slice g l.length cp ∧ s12 = .int .i64 i ∧ i ≤ n ∧ n - i ≤ kx ∧ RowKit.Hid (l = (m.take i).filter (told st A la B lb o) ∧ OwnE wr W1.heap.size 42 (.slice g l.length cp) l ∧ Kept W1 wr []))
  case atStart => exact ⟨0, 0, none, [], rfl, rfl, by omega, by omega, rfl, OwnE.nil _ _ _, Kept.refl _ _⟩
  case round =>
    obtain ⟨i, cp, g, l, rfl, rfl, hi, hkx, HS⟩ := hrel
    have hll : l.length < 1000000 := by have := filter_len (P := told st A la B lb o) m i; rw [← HS.out.1, ← HN.out] at this; omega
    by_cases hlt : i < n
    · have x1 : (i : Int) < (n : Int) := by omega
      obtain ⟨x, hx⟩ : ∃ r, m[i]? = some r := ⟨_, List.getElem?_eq_getElem (by rw [← HN.out]; exact hlt)⟩
      have em := HM.out.kept (K1.out.trans HS.out.2.2 (by simp)) (by simp)
      rw [← HN.out] at em
      obtain ⟨bm, om, rfl, f⟩ := em.eight hx
      obtain ⟨b0, b1, b2, b3, b4, b5, b6, b7⟩ := x
      obtain ⟨p0, p1, p2, p3, p4, p5, p6, p7⟩ := f
      simp only at p0 p1 p2 p3 p4 p5 p6 p7
      have HX1 := Lib.hid hx
      obtain ⟨W2, hW2⟩ : ∃ W2, W2 = wr.alloc (.cells #[.int .i64 b0, .int .i64 b1, .string b2, .int .i64 b3, .int .i64 b4, .int .u8 b5, .int .i64 b6, .string b7] 42) := ⟨_, rfl⟩
      have k2 : Kept wr W2 [] := by rw [hW2]; exact (Kept.refl wr []).alloc _
      have gz : W2.heap[wr.heap.size]? = some (.cells #[.int .i64 b0, .int .i64 b1, .string b2, .int .i64 b3, .int .i64 b4, .int .u8 b5, .int .i64 b6, .string b7] 42 (0, 0)) := by rw [hW2]; exact heap_alloc_new wr _
      have HW2 := Lib.hid hW2; have K2 := Lib.hid k2; have GZ := Lib.hid gz
      obtain ⟨d0, hd0⟩ : ∃ d, dueB b2 o = d := ⟨_, rfl⟩
      obtain ⟨s0, hs0⟩ : ∃ s, stAt st b1 = s := ⟨_, rfl⟩
      obtain ⟨r1, hr1⟩ : ∃ r, seesB B lb b1 = r := ⟨_, rfl⟩
      obtain ⟨r0, hr0⟩ : ∃ r, seesB A la b1 = r := ⟨_, rfl⟩
      have EN : RowKit.Hid (∀ {q : Bool}, m[i]? = some ⟨b0, b1, b2, b3, b4, b5, b6, b7⟩ → (d0 && (s0 == 2 && (r1 && !r0))) = q → (m.take (i + 1)).filter (told st A la B lb o) = (m.take i).filter (told st A la B lb o) ++ (if q then [⟨b0, b1, b2, b3, b4, b5, b6, b7⟩] else [])) := Lib.hid (fun h1 h2 => by
        rw [filter_take h1, ← h2]; simp only [told, betw, hd0, hs0, hr0, hr1])
      have cd := Lib.hid (fun W => refdue_any ⟨b0, b1, b2, b3, b4, b5, b6, b7⟩ o W)
      have cs := Lib.hid (fun W (k : Kept wr W []) => MM.out b1 W (K1.out.trans (HS.out.2.2.trans k (by simp)) (by simp)))
      have cb := Lib.hid (fun W (k : Kept wr W []) => rsees_any B b1 _ lb W (HB.out.keep (K1.out.trans (HS.out.2.2.trans k (by simp)) (by simp))))
      have ca := Lib.hid (fun W (k : Kept wr W []) => rsees_any A b1 _ la W (HA.out.keep (K1.out.trans (HS.out.2.2.trans k (by simp)) (by simp))))
      simp only [hd0, hs0, hr0, hr1, Ev.cs] at cd cs cb ca
      obtain ⟨q0, q1, q2, q3, q4, q5, q6, q7⟩ := ev_cells gz
      clear hx em hW2 k2 gz hd0 hs0 hr0 hr1
      go_upto_region 6 with fail
      rw [← HW2.out]
      clear p0 p1 p2 p3 p4 p5 p6 p7
      go_wp2_with fail
      refine (cd.out W2).mono ?_
      rintro e w3 ⟨rfl, k3⟩
      have K3 := Lib.hid (K2.out.trans k3 (by simp))
      have G3 := Lib.hid (k3.heap (by simp) GZ.out)
      clear k3 q0 q1 q2 q3 q4 q5 q6 q7
      obtain ⟨q0, q1, q2, q3, q4, q5, q6, q7⟩ := ev_cells G3.out
      cases d0
      · go_wp2
        go_roundg (n - (i + 1))
        case measure => omega
        case rel => exact ⟨i + 1, cp, g, l, rfl, by go_num, by omega, by omega, by rw [EN.out (q := false) HX1.out (rfl), ← HS.out.1]; simp, HS.out.2.1.kept K3.out (by simp), HS.out.2.2.trans K3.out (by simp)⟩
      · go_wp2_with fail
        refine (cs.out w3 K3.out).mono ?_
        rintro e w4 ⟨rfl, rfl⟩
        by_cases hs2 : s0 = 2
        · subst hs2
          obtain ⟨y2, y3⟩ := two_cells ((HS.out.2.2.trans K3.out (by simp)).heap (by simp) G2.out)
          go_wp2_with fail
          refine (cb.out w3 K3.out).mono ?_
          rintro e w5 ⟨rfl, k5⟩
          have K5 := Lib.hid (K3.out.trans k5 (by simp))
          have G5 := Lib.hid (k5.heap (by simp) G3.out)
          clear k5 q0 q1 q2 q3 q4 q5 q6 q7 y2 y3
          obtain ⟨q0, q1, q2, q3, q4, q5, q6, q7⟩ := ev_cells G5.out
          cases r1
          · go_wp2
            go_roundg (n - (i + 1))
            case measure => omega
            case rel => exact ⟨i + 1, cp, g, l, rfl, by go_num, by omega, by omega, by rw [EN.out (q := false) HX1.out (by simp), ← HS.out.1]; simp, HS.out.2.1.kept K5.out (by simp), HS.out.2.2.trans K5.out (by simp)⟩
          · obtain ⟨y0, y1⟩ := two_cells ((HS.out.2.2.trans K5.out (by simp)).heap (by simp) G1.out)
            go_wp2_with fail
            refine (ca.out w5 K5.out).mono ?_
            rintro e w7 ⟨rfl, k7⟩
            have K7 := Lib.hid (K5.out.trans k7 (by simp))
            have G7 := Lib.hid (k7.heap (by simp) G5.out)
            clear k7 q0 q1 q2 q3 q4 q5 q6 q7 y0 y1
            obtain ⟨q0, q1, q2, q3, q4, q5, q6, q7⟩ := ev_cells G7.out
            cases r0
            · have HO := Lib.hid (HS.out.2.1.kept K7.out (by simp))
              have hbz : W1.heap.size ≤ w7.heap.size := (HS.out.2.2.trans K7.out (by simp)).size
              go_wp2_with ((at_builtin; refine wpList_append_src _ rfl (.tmp 47) (.tmp 49) 33 33 rfl W1.heap.size 42 i0 _ 8 80 Try.underlying33 I.out.1 I.out.2.1 I.out.2.2.1 I.out.2.2.2 rfl _ l.length (ecs l) rfl ?hown _ 1 (Ev.mk b0 b1 b2 b3 b4 b5 b6 b7).cs.toList rfl (src_ev w7 ⟨b0, b1, b2, b3, b4, b5, b6, b7⟩) (by unfold maxLen; omega) (by omega) (by first | assumption | omega | (simp; omega)) ?next))
              case hown => exact World.ownsRow.alloc HO.out (.cells #[.int .i64 b0, .int .i64 b1, .string b2, .int .i64 b3, .int .i64 b4, .int .u8 b5, .int .i64 b6, .string b7] 42)
              case next =>
                intro v6 w6 hown hgrow; intros
                have ho : OwnE w6 W1.heap.size 42 v6 (l ++ [⟨b0, b1, b2, b3, b4, b5, b6, b7⟩]) := by unfold OwnE; rw [← ecs_snoc, List.length_append]; exact hown
                have hk : Kept W1 w6 [] := ((HS.out.2.2.trans K7.out (by simp)).alloc (.cells #[.int .i64 b0, .int .i64 b1, .string b2, .int .i64 b3, .int .i64 b4, .int .u8 b5, .int .i64 b6, .string b7] 42)).grown hgrow (fun k hk => .inr (HO.out.lt k hk).1)
                obtain ⟨u9, n9, rfl⟩ := ho.shape
                have R := Lib.hid (And.intro (show l ++ [⟨b0, b1, b2, b3, b4, b5, b6, b7⟩] = (m.take (i + 1)).filter (told st A la B lb o) from by rw [EN.out (q := true) HX1.out rfl, ← HS.out.1]; rfl) (And.intro ho hk))
                clear hown hgrow ho hk q0 q1 q2 q3 q4 q5 q6 q7
                go_wp2
                go_roundg (n - (i + 1))
                case measure => omega
                case rel => exact ⟨i + 1, _, _, _, rfl, by go_num, by omega, by omega, R.out⟩
            · go_wp2
              go_roundg (n - (i + 1))
              case measure => omega
              case rel => exact ⟨i + 1, cp, g, l, rfl, by go_num, by omega, by omega, by rw [EN.out (q := false) HX1.out (by simp), ← HS.out.1]; simp, HS.out.2.1.kept K7.out (by simp), HS.out.2.2.trans K7.out (by simp)⟩
        · have e2 : ((s0 : Int) == 2) = false := by rw [beq_eq_false_iff_ne]; omega
          have e3 : (s0 == 2) = false := by rw [beq_eq_false_iff_ne]; exact hs2
          have E3 := Lib.hid e3
          clear e3 hs2
          go_wp2
          go_roundg (n - (i + 1))
          case measure => omega
          case rel => exact ⟨i + 1, cp, g, l, rfl, by go_num, by omega, by omega, by rw [EN.out (q := false) HX1.out (by rw [E3.out]; rfl), ← HS.out.1]; simp, HS.out.2.1.kept K3.out (by simp), HS.out.2.2.trans K3.out (by simp)⟩
    · have x1 : ¬ (i : Int) < (n : Int) := by omega
      have ho := HS.out.2.1
      have HS2 := HS.out.1
      rw [List.take_of_length_le (by rw [← HN.out]; omega)] at HS2
      have H2 := Lib.hid HS2
      have hs := Lib.hid (rsort_any ho.rd (by omega))
      clear ho HS2
      go_wp2_with fail
      refine hs.out.mono ?_
      rintro e w2 ⟨v2, rfl, ho2, hf2⟩
      have O2 := Lib.hid ho2; have F2 := Lib.hid hf2
      obtain ⟨u2, n2, hv2⟩ := ho2.shape
      have hk2 : Kept w w2 [] := (K1.out.trans HS.out.2.2 (by simp)).trans hf2 (by simp)
      have hsz : w.heap.size ≤ wr.heap.size := (K1.out.trans HS.out.2.2 (by simp)).size
      subst hv2
      clear ho2 hf2
      go_wp2
      go_ret
      refine ⟨_, rfl, ?_, hk2⟩
      rw [← H2.out]
      exact O2.out.mono hsz

end Go.Proofs.Ytojkandkhhjaaaa
