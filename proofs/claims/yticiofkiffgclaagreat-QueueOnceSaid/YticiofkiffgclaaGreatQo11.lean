/-
  Sog in one text.
-/
import Derived.Test.YticiofkiffgclaaGreatQo10
namespace Go.Proofs.YticiofkiffgclaaGreat
open Go.Shelf Go.RowKit Go.Lib Go.Sort

variable {P : Program} {α : Type} [Inhabited α] {k : Nat} {enc : α → List Value} {w0 : World} {blk off : Nat} {d0 : Array α}

def SymAt (P : Program) (enc : α → List Value) (k : Nat) (w0 : World) (blk off : Nat) (d0 : Array α) (c : α → α → Bool) (g : Nat) (cb : Array Value) (cap N : Nat) : Prop :=
  ∀ (A X Y B : List α) (d : Array α) (w : World), X.length + Y.length ≤ N → d.toList = A ++ X ++ Y ++ B → d.size = d0.size → SWK enc k w0 blk off d w → d.size < 4611686018427387904 → Srt c X → Srt c Y → 0 < X.length → 0 < Y.length →
    ∀ sz a m b : Nat, sz = d.size → a = A.length → m = a + X.length → b = m + Y.length →
    Calls P 186 #[.slice (some ⟨blk, off, none⟩) sz cap, .int .i64 a, .int .i64 m, .int .i64 b, .func (.func g) #[] cb] w fun e w' => e = .returned (.tuple #[]) ∧ ∃ d' : Array α, d'.toList = A ++ srt c (X ++ Y) ++ B ∧ SWK enc k w0 blk off d' w'

theorem size_of_list {β : Type} {d d' : Array β} (h : d'.toList.length = d.toList.length) : d'.size = d.size := by simpa using h

set_option maxHeartbeats 4000000 in
set_option maxRecDepth 1000000 in
theorem sym_main (L : SL P k) (R : RowK enc k w0 blk off d0) {c : α → α → Bool} (T : Tot c) {cf : α → α → Int} (hcf : ∀ x y, cf x y < 0 ↔ c y x = false) (g : Nat) (cb : Array Value) (eg : ∀ args w, (callFunc g args).run P w = .ok (.enter g args) w) (hcmp : CmpLays P g cb enc k cf blk off d0.size w0)
    (cap N : Nat) (ih : SymAt P enc k w0 blk off d0 c g cb cap N) (A X Y B : List α) (d : Array α) (w : World) (hN : X.length + Y.length ≤ N + 1) (hd : d.toList = A ++ X ++ Y ++ B) (hs : d.size = d0.size) (S : SWK enc k w0 blk off d w) (hsz : d.size < 4611686018427387904) (hX : Srt c X) (hY : Srt c Y) (hX2 : 2 ≤ X.length) (hY2 : 2 ≤ Y.length)
    (sz a m b : Nat) (hz : sz = d.size) (ha : a = A.length) (hm : m = a + X.length) (hb : b = m + Y.length) :
    Calls P 186 #[.slice (some ⟨blk, off, none⟩) sz cap, .int .i64 a, .int .i64 m, .int .i64 b, .func (.func g) #[] cb] w fun e w' => e = .returned (.tuple #[]) ∧ ∃ d' : Array α, d'.toList = A ++ srt c (X ++ Y) ++ B ∧ SWK enc k w0 blk off d' w' := by
  have mixed := L.mixed; have t0 := L.t0; have a0 := L.a0; have z0 := L.z0; have v0 := L.v0; have t3 := L.t3; have a3 := L.a3; have z3 := L.z3; have v3 := L.v3; have t4 := L.t4; have a4 := L.a4; have z4 := L.z4; have v4 := L.v4; have t5 := L.t5; have a5 := L.a5; have z5 := L.z5; have v5 := L.v5; have t6 := L.t6; have a6 := L.a6; have z6 := L.z6; have v6 := L.v6; have t7 := L.t7; have a7 := L.a7; have z7 := L.z7; have v7 := L.v7; have aE := L.aE; have zE := L.zE
  have u6 := run_underlying L.t6; have u5 := run_underlying L.t5; have u3 := run_underlying L.t3
  have er : ∀ args w, (callFunc 212 args).run P w = .ok (.enter 212 args) w := enters_of L.fr (by kernel_rfl) rfl
  have es : ∀ args w, (callFunc 186 args).run P w = .ok (.enter 186 args) w := enters_of L.fm (by kernel_rfl) rfl
  have S0 : Aside (SWK enc k w0 blk off d w) := S
  have HC : Aside _ := hcmp
  have HD : Hid (d.toList = A ++ X ++ Y ++ B) := Lib.hid hd
  have HS : Hid (d.size = d0.size ∧ sz = d.size) := Lib.hid ⟨hs, hz⟩
  have hfit : b ≤ sz := by
    have := congrArg List.length hd
    simp at this
    omega
  have HN : Hid (a = A.length ∧ m = a + X.length ∧ b = m + Y.length ∧ X.length + Y.length ≤ N + 1) := Lib.hid ⟨ha, hm, hb, hN⟩
  have hszi : sz < 4611686018427387904 := by omega
  have ham : a + 2 ≤ m := by omega
  have hmb : m + 2 ≤ b := by omega
  have hm1 : ((m : Int) - (a : Int) == 1) = false := beq_eq_false_iff_ne.2 (by omega)
  have hm2 : ((b : Int) - (m : Int) == 1) = false := beq_eq_false_iff_ne.2 (by omega)
  have HT : Hid (Tot c) := Lib.hid T
  have HXY : Hid (Srt c X ∧ Srt c Y) := Lib.hid ⟨hX, hY⟩
  have HCF : Hid (∀ x y, cf x y < 0 ↔ c y x = false) := Lib.hid hcf
  have IH : Aside (SymAt P enc k w0 blk off d0 c g cb cap N) := ih
  clear S hcmp hd hs hz ha hb hm hN hsz hX hY hX2 hY2 hcf T ih
  obtain ⟨mid, hmid1, hmid2, e2, e3⟩ := half a b (by omega) (by omega)
  have hmid3 : a < mid := by omega
  have hmid4 : 2 * mid ≤ a + b ∧ a + b ≤ 2 * mid + 1 := by omega
  obtain ⟨hq1, hq2⟩ := hmid4
  go_enter L.fm, Tryz.ntmps186
  go_upto_if 140 with fail
  clear e2 e3
  go_cut [20, 21] (fun s20 s21 wx => ∃ st r : Nat, s20 = .int .i64 st ∧ s21 = .int .i64 r ∧ a ≤ st ∧ st ≤ r ∧ r ≤ m ∧ r ≤ mid ∧ mid + m ≤ b + st ∧ (a < st → ¬ mid + m - st < b) ∧ (r < m → ¬ r < mid) ∧ w = wx)
  case first =>
    by_cases hmm : mid < m
    · have x1 : (mid : Int) < (m : Int) := by omega
      go_wp2_with fail
      go_meet
      exact ⟨mid + m - b, mid, by go_num, rfl, by omega, by omega, by omega, by omega, by omega, by omega, by omega, rfl⟩
    · have x1 : ¬ (mid : Int) < (m : Int) := by omega
      go_wp2_with fail
      go_meet
      exact ⟨a, m, rfl, rfl, by omega, by omega, by omega, by omega, by omega, by omega, by omega, rfl⟩
  case rest =>
    obtain ⟨st0, r0, rfl, rfl, f1, f2, f3, f4, f5, f6, f7, rfl⟩ := hcut
    have F67 := Lib.hid (And.intro f6 f7)
    clear f6 f7
    obtain ⟨p, hp⟩ : ∃ p, p = mid + m - 1 := ⟨_, rfl⟩
    have xp : (mid : Int) + (m : Int) - 1 = (p : Int) := by omega
    have hp1 : p + 1 ≤ mid + m := by omega
    have hp2 : mid + m ≤ p + 1 := by omega
    clear hp
    go_wp2
    go_loopg [20, 21, 23] (r0 - st0) (fun kx s20 s21 _ wr => ∃ (st r : Nat), s20 = .int .i64 st ∧ s21 = .int .i64 r ∧ a ≤ st ∧ st ≤ r ∧ r ≤ m ∧ r ≤ mid ∧ mid + m ≤ b + st ∧ r - st ≤ kx ∧ Aside (SWK enc k w0 blk off d wr) ∧ Hid ((a < st → mid + m - st < b → c d[st - 1]! d[mid + m - st]! = true) ∧ (r < m → r < mid → c d[r]! d[mid + m - 1 - r]! = false)))
    case atStart => exact ⟨st0, r0, rfl, rfl, by omega, by omega, by omega, by omega, by omega, by omega, S0, fun h h' => absurd h' (F67.out.1 h), fun h h' => absurd h' (F67.out.2 h)⟩
    case round =>
      clear S0 F67 f1 f2 f3 f4 f5
      obtain ⟨st, r, rfl, rfl, f1, f2, f3, f4, f5, hkx, S1, HL⟩ := hrel
      by_cases hlt : st < r
      · have x1 : (st : Int) < (r : Int) := by omega
        obtain ⟨h, hk1, hk2, e2, e3⟩ := half st r hlt (by omega)
        have E := Lib.hid (And.intro e2 e3)
        clear e2 e3
        have ih1 : mid + m - 1 - h < d.size := by have := HS.out; omega
        have ih2 : h < d.size := by have := HS.out; omega
        have eh1 : ((h : Int)).toNat = h := by omega
        have ph : (0 : Int) ≤ (h : Int) := by omega
        have bh : (h : Int) < (sz : Int) := by omega
        have rh : IntKind.i64.wrap ((h : Int)) = (h : Int) := by rw [IntKind.wrap_i64]; omega
        obtain ⟨u, hu⟩ : ∃ u, u = mid + m - 1 - h := ⟨_, rfl⟩
        have xu : (p : Int) - (h : Int) = (u : Int) := by omega
        have eu1 : ((u : Int)).toNat = u := by omega
        have pu : (0 : Int) ≤ (u : Int) := by omega
        have bu : (u : Int) < (sz : Int) := by omega
        have ru : IntKind.i64.wrap ((u : Int)) = (u : Int) := by rw [IntKind.wrap_i64]; omega
        rw [← hu] at ih1
        have la := S1.out.ld R HS.out.1 P u ih1
        have lh := S1.out.ld R HS.out.1 P h ih2
        obtain ⟨x, hx⟩ : ∃ x, x = d[u]! := ⟨_, rfl⟩
        obtain ⟨y, hy⟩ : ∃ y, y = d[h]! := ⟨_, rfl⟩
        rw [← hx] at la
        rw [← hy] at lh
        have hc := S1.out.cmp HC.out HS.out.1 x y
        by_cases hv : c y x = false
        · have hv1 : cf x y < 0 := (HCF.out x y).2 hv
          have hd1 : decide (cf x y < 0) = true := decide_eq_true hv1
          have HR : Hid ((a < st → mid + m - st < b → c d[st - 1]! d[mid + m - st]! = true) ∧ (h < m → h < mid → c d[h]! d[mid + m - 1 - h]! = false)) := Lib.hid ⟨HL.out.1, fun _ _ => by rw [← hu, ← hx, ← hy]; exact hv⟩
          clear HL hv hx hy ih1 ih2 hu
          obtain ⟨e2, e3⟩ := E.out
          go_wp2_with fail
          go_quiet_grown (first | (go_at_fn g; refine Calls.grown_of (hc _ _)))
          have S2 : Aside (SWK enc k w0 blk off d (grow (wr.drewN nq) osq)) := S1.out.grown nq osq
          clear lh la hc S1
          generalize grow (wr.drewN nq) osq = w2 at S2 ⊢
          go_wp2
          go_roundg (h - st)
          case measure => omega
          case rel => exact ⟨st, h, rfl, rfl, by omega, by omega, by omega, by omega, by omega, Nat.le_refl _, S2, HR⟩
        · have hv1 : ¬ cf x y < 0 := fun hn => hv ((HCF.out x y).1 hn)
          have hd1 : decide (cf x y < 0) = false := decide_eq_false hv1
          have HR : Hid ((a < h + 1 → mid + m - (h + 1) < b → c d[h + 1 - 1]! d[mid + m - (h + 1)]! = true) ∧ (r < m → r < mid → c d[r]! d[mid + m - 1 - r]! = false)) := Lib.hid ⟨fun _ _ => by
            rw [Nat.add_sub_cancel, show mid + m - (h + 1) = u by omega, ← hx, ← hy]
            simpa using hv, HL.out.2⟩
          clear HL hv hx hy ih1 ih2 hu
          obtain ⟨e2, e3⟩ := E.out
          go_wp2_with fail
          go_quiet_grown (first | (go_at_fn g; refine Calls.grown_of (hc _ _)))
          have S2 : Aside (SWK enc k w0 blk off d (grow (wr.drewN nq) osq)) := S1.out.grown nq osq
          clear lh la hc S1
          generalize grow (wr.drewN nq) osq = w2 at S2 ⊢
          go_wp2
          go_roundg (r - (h + 1))
          case measure => omega
          case rel => exact ⟨h + 1, r, by go_num, rfl, by omega, by omega, by omega, by omega, by omega, Nat.le_refl _, S2, HR⟩
      · have x1 : ¬ (st : Int) < (r : Int) := by omega
        obtain rfl : st = r := by omega
        obtain ⟨P1, X1, Y1, T1, eX, eY, lP, lX, lY, lT, g1, g2⟩ := sym_split HT.out HD.out HXY.out.1 HXY.out.2 HN.out.1 HN.out.2.1 HN.out.2.2.1 f1 f3 f4 f5 HL.out.1 HL.out.2
        obtain ⟨sX, sY⟩ := HXY.out
        rw [eX] at sX
        rw [eY] at sY
        have HG : Hid (srt c (X ++ Y) = srt c (P1 ++ Y1) ++ srt c (X1 ++ T1)) := Lib.hid (by rw [eX, eY]; exact srt_halves HT.out sX sY g1 g2)
        have HP : Hid (Srt c P1 ∧ Srt c X1 ∧ Srt c Y1 ∧ Srt c T1) := Lib.hid ⟨(List.pairwise_append.1 sX).1, (List.pairwise_append.1 sX).2.1, (List.pairwise_append.1 sY).1, (List.pairwise_append.1 sY).2.1⟩
        obtain ⟨q, hq⟩ : ∃ q, q = mid + m - st := ⟨_, rfl⟩
        have xq : (mid : Int) + (m : Int) - (st : Int) = (q : Int) := by omega
        have HLn : Hid (P1.length + a = st ∧ X1.length + st = m ∧ Y1.length + st = mid ∧ T1.length + q = b ∧ q + st = mid + m ∧ P1.length + X1.length + Y1.length + T1.length ≤ N + 1) := Lib.hid (by
          have h1 := congrArg List.length eX
          have h2 := congrArg List.length eY
          obtain ⟨_, _, _, h4⟩ := HN.out
          simp at h1 h2
          refine ⟨?_, ?_, ?_, ?_, ?_, ?_⟩ <;> omega)
        have HD2 : Hid (d.toList = A ++ P1 ++ X1 ++ Y1 ++ T1 ++ B) := Lib.hid (by rw [HD.out, eX, eY]; simp)
        have hqb : q ≤ b := by omega
        have hqm : m ≤ q := by omega
        clear HL eX eY lP lX lY lT g1 g2 sX sY hq f5 hkx
        go_upto_region 39 with fail
        go_cut [185] (fun sg wx => ∃ bb : Bool, sg = .bool bb ∧ Hid (bb = true ↔ st < m ∧ m < q) ∧ wr = wx)
        case first => as_aux_lemma =>
          by_cases fx : st < m
          · by_cases fy : m < q
            · have i1 : (st : Int) < (m : Int) := by omega
              have i2 : (m : Int) < (q : Int) := by omega
              go_wp2_with fail
              go_meet
              exact ⟨true, rfl, Lib.hid ⟨fun _ => ⟨fx, fy⟩, fun _ => rfl⟩, rfl⟩
            · have i1 : (st : Int) < (m : Int) := by omega
              have i2 : ¬ (m : Int) < (q : Int) := by omega
              go_wp2_with fail
              go_meet
              exact ⟨false, rfl, Lib.hid ⟨fun h => by simp at h, fun h => absurd h.2 fy⟩, rfl⟩
          · have i1 : ¬ (st : Int) < (m : Int) := by omega
            go_wp2_with fail
            go_meet
            exact ⟨false, rfl, Lib.hid ⟨fun h => by simp at h, fun h => absurd h.1 fx⟩, rfl⟩
        case rest => as_aux_lemma =>
          obtain ⟨bb, rfl, hbb, rfl⟩ := hcut
          go_upto_if 185 with fail
          go_cut [] (fun wx => ∃ d1 : Array α, d1.toList = A ++ P1 ++ Y1 ++ X1 ++ T1 ++ B ∧ d1.size = d0.size ∧ SWK enc k w0 blk off d1 wx)
          case first => as_aux_lemma =>
            cases bb with
            | true =>
              obtain ⟨fx, fy⟩ := hbb.out.1 rfl
              have hc := rotate_any L R g cb cap (A ++ P1) X1 Y1 (T1 ++ B) d wr (by rw [HD2.out]; simp) HS.out.1 S1.out (by have := HS.out; omega) sz st m q HS.out.2 (by have := HLn.out; have := HN.out; simp; omega) (by have := HLn.out; have := HN.out; simp; omega) (by have := HLn.out; have := HN.out; simp; omega) (by have := HLn.out; omega) (by have := HLn.out; omega)
              have HC1 := Lib.hid hc
              clear hc
              go_wp2_with (go_at_fn 212; refine HC1.out.mono ?_; rintro e w' ⟨rfl, d', hd', S'⟩)
              go_meet
              exact ⟨d', by rw [hd']; simp, by rw [← HS.out.1]; exact size_of_list (by rw [hd', HD2.out]; simp; omega), S'⟩
            | false =>
              have fx : ¬ (st < m ∧ m < q) := fun h => by have := hbb.out.2 h; simp at this
              go_wp2_with fail
              go_meet
              refine ⟨d, ?_, HS.out.1, S1.out⟩
              rw [HD2.out]
              by_cases hf : st < m
              · have : Y1 = [] := List.eq_nil_of_length_eq_zero (by have := HLn.out; omega)
                rw [this]; simp
              · have : X1 = [] := List.eq_nil_of_length_eq_zero (by have := HLn.out; omega)
                rw [this]; simp
          case rest => as_aux_lemma =>
            obtain ⟨d1, hd1, hs1, hS1⟩ := hcut
            have HD3 := Lib.hid hd1; have HS3 := Lib.hid hs1
            have S3 : Aside (SWK enc k w0 blk off d1 wc) := hS1
            clear hd1 hs1 hS1 S1 HD2
            go_upto_region 41 with fail
            go_cut [199] (fun sg wx => ∃ bb : Bool, sg = .bool bb ∧ Hid (bb = true ↔ a < st ∧ st < mid) ∧ wc = wx)
            case first => as_aux_lemma =>
              by_cases fx : a < st
              · by_cases fy : st < mid
                · have i1 : (a : Int) < (st : Int) := by omega
                  have i2 : (st : Int) < (mid : Int) := by omega
                  go_wp2_with fail
                  go_meet
                  exact ⟨true, rfl, Lib.hid ⟨fun _ => ⟨fx, fy⟩, fun _ => rfl⟩, rfl⟩
                · have i1 : (a : Int) < (st : Int) := by omega
                  have i2 : ¬ (st : Int) < (mid : Int) := by omega
                  go_wp2_with fail
                  go_meet
                  exact ⟨false, rfl, Lib.hid ⟨fun h => by simp at h, fun h => absurd h.2 fy⟩, rfl⟩
              · have i1 : ¬ (a : Int) < (st : Int) := by omega
                go_wp2_with fail
                go_meet
                exact ⟨false, rfl, Lib.hid ⟨fun h => by simp at h, fun h => absurd h.1 fx⟩, rfl⟩
            case rest => as_aux_lemma =>
              obtain ⟨bb, rfl, hbb, rfl⟩ := hcut
              go_upto_if 199 with fail
              go_cut [] (fun wx => ∃ d2 : Array α, d2.toList = A ++ srt c (P1 ++ Y1) ++ X1 ++ T1 ++ B ∧ d2.size = d0.size ∧ SWK enc k w0 blk off d2 wx)
              case first => as_aux_lemma =>
                cases bb with
                | true =>
                  obtain ⟨fx, fy⟩ := hbb.out.1 rfl
                  have hc := IH.out A P1 Y1 (X1 ++ T1 ++ B) d1 _ (by have := HLn.out; omega) (by rw [HD3.out]; simp) HS3.out S3.out (by have := HS.out; have := HS3.out; omega) HP.out.1 HP.out.2.2.1 (by have := HLn.out; omega) (by have := HLn.out; omega) sz a st mid (by have := HS.out; have := HS3.out; omega) HN.out.1 (by have := HLn.out; omega) (by have := HLn.out; omega)
                  have HC1 := Lib.hid hc
                  clear hc
                  go_wp2_with (go_at_fn 186; refine HC1.out.mono ?_; rintro e w' ⟨rfl, d', hd', S'⟩)
                  go_meet
                  exact ⟨d', by rw [hd']; simp, by rw [← HS3.out]; exact size_of_list (by rw [hd', HD3.out]; simp [srt_length]; omega), S'⟩
                | false =>
                  have fx : ¬ (a < st ∧ st < mid) := fun h => by have := hbb.out.2 h; simp at this
                  go_wp2_with fail
                  go_meet
                  refine ⟨d1, ?_, HS3.out, S3.out⟩
                  rw [HD3.out]
                  by_cases hf : a < st
                  · have : Y1 = [] := List.eq_nil_of_length_eq_zero (by have := HLn.out; omega)
                    rw [this]; simp [srt_self HT.out HP.out.1]
                  · have : P1 = [] := List.eq_nil_of_length_eq_zero (by have := HLn.out; omega)
                    rw [this]; simp [srt_self HT.out HP.out.2.2.1]
              case rest => as_aux_lemma =>
                obtain ⟨d2, hd2, hs2, hS2⟩ := hcut
                have HD4 := Lib.hid hd2; have HS4 := Lib.hid hs2
                have S4 : Aside (SWK enc k w0 blk off d2 _) := hS2
                clear hd2 hs2 hS2 S3 HD3 HS3
                by_cases fx : mid < q
                · have i1 : (mid : Int) < (q : Int) := by omega
                  by_cases fy : q < b
                  · have i2 : (q : Int) < (b : Int) := by omega
                    have hc := IH.out (A ++ srt c (P1 ++ Y1)) X1 T1 B d2 _ (by have := HLn.out; omega) (by rw [HD4.out]) HS4.out S4.out (by have := HS.out; have := HS4.out; omega) HP.out.2.1 HP.out.2.2.2 (by have := HLn.out; omega) (by have := HLn.out; omega) sz mid q b (by have := HS.out; have := HS4.out; omega) (by have := HLn.out; have := HN.out; simp [srt_length]; omega) (by have := HLn.out; omega) (by have := HLn.out; omega)
                    have HC1 := Lib.hid hc
                    clear hc
                    go_wp2_with (go_at_fn 186; refine HC1.out.mono ?_; rintro e w' ⟨rfl, d', hd', S'⟩)
                    go_end0
                    exact ⟨rfl, d', by rw [hd', HG.out]; simp, S'⟩
                  · have i2 : ¬ (q : Int) < (b : Int) := by omega
                    go_wp2
                    go_end0
                    have : T1 = [] := List.eq_nil_of_length_eq_zero (by have := HLn.out; omega)
                    subst this
                    exact ⟨rfl, d2, by rw [HD4.out, HG.out, List.append_nil, List.append_nil, srt_self HT.out HP.out.2.1]; simp, S4.out⟩
                · have i1 : ¬ (mid : Int) < (q : Int) := by omega
                  go_wp2
                  go_end0
                  have : X1 = [] := List.eq_nil_of_length_eq_zero (by have := HLn.out; omega)
                  subst this
                  exact ⟨rfl, d2, by rw [HD4.out, HG.out, List.nil_append, srt_self HT.out HP.out.2.2.2]; simp, S4.out⟩

theorem sym_any (L : SL P k) (R : RowK enc k w0 blk off d0) {c : α → α → Bool} (T : Tot c) {cf : α → α → Int} (hcf : ∀ x y, cf x y < 0 ↔ c y x = false) (g : Nat) (cb : Array Value) (eg : ∀ args w, (callFunc g args).run P w = .ok (.enter g args) w) (hcmp : CmpLays P g cb enc k cf blk off d0.size w0)
    (cap : Nat) : ∀ N, SymAt P enc k w0 blk off d0 c g cb cap N := by
  intro N
  induction N with
  | zero => intro A X Y B d w h1 _ _ _ _ _ _ h2 _; omega
  | succ N ih =>
    intro A X Y B d w hN hd hs S hsz hX hY hX0 hY0 sz a m b hz ha hm hb
    by_cases h1 : X.length = 1
    · obtain ⟨x, rfl⟩ := List.length_eq_one_iff.1 h1
      exact sym_front L R T hcf g cb eg hcmp cap A x Y B d w hd hs S hsz hY sz a m b hz ha hm hb
    · by_cases h2 : Y.length = 1
      · obtain ⟨y, rfl⟩ := List.length_eq_one_iff.1 h2
        exact sym_back L R T hcf g cb eg hcmp cap A X y B d w hd hs S hsz hX h1 sz a m b hz ha hm hb
      · exact sym_main L R T hcf g cb eg hcmp cap N ih A X Y B d w hN hd hs S hsz hX hY (by omega) (by omega) sz a m b hz ha hm hb

end Go.Proofs.YticiofkiffgclaaGreat
