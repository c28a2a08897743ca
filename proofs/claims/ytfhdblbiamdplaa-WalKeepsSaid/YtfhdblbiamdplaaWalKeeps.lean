/-
  Proved: whatever the arguments are, carrierlaw04.WalKeeps answers true and leaves its arguments as they were. No condition.
-/
import Derived.Test.YtfhdblbiamdplaaWy
import Derived.ProofKit
import Derived.OpenShut
import Derived.ChangeOld
import Derived.Below
namespace Go.Proofs.Ytfhdblbiamdplaa.walKeeps
open Go.ChangeShapes Go.WideShapes Go.ChangeAt Go.RowKit
set_option linter.unusedVariables false

theorem own : ownKnob Try.prog.godebug = none := by kernel_rfl
theorem laidOut : laidOutB Try.prog = true := by kernel_rfl

theorem wp_fr {w1 wx wy : World} {p gn gs q n lg rl s m : Nat} {now safe : List UInt8} {ws : List Wt} {v vs vw : Value} (h : Wp w1 wx p gn gs q n lg rl now safe ws v vs vw s m) (hf : Fr w1.heap.size [36] wx wy) : Wp w1 wy p gn gs q n lg rl now safe ws v vs vw s m :=
  { h with D := h.D.frame hf (by decide) (by decide) (by decide), R := h.R.frame hf (Nat.le_refl _) (by decide) (by decide) (by decide), G := h.G.frame hf (by decide), H := h.H.frame hf (by decide), K := kept_fr h.K hf }

/-- Rows whose slice lies below D stand. -/
theorem RowsA.stand {w w' : World} {B C D : Nat} {v : Value} {L : List (List UInt8)} (h : RowsA w B C v L) (hv : ∀ b, v.ownBlock = some b → b < D) (hf : Fr D [36] w w') (hC : C ≤ D) : RowsA w' B C v L := by
  obtain ⟨xs, ho, hl, hr⟩ := h
  refine ⟨xs, ⟨ho.1, ?_⟩, hl, fun i h3 h4 => (hr i h3 h4).frame hf hC (by decide)⟩
  rcases ho.2 with h2 | ⟨g, cap, cur, rfl, hbg, hg, r⟩
  · exact .inl h2
  · exact .inr ⟨g, cap, cur, rfl, hbg, hf.heapLt hg (hv g rfl), r⟩

theorem RowsA.lt {w : World} {B C : Nat} {v : Value} {L : List (List UInt8)} (h : RowsA w B C v L) : ∀ b, v.ownBlock = some b → b < w.heap.size := by
  obtain ⟨xs, ho, _⟩ := h
  exact fun b hb => (World.ownsRow.lt ho b hb).2

theorem RowsR.shape {w : World} {B C : Nat} {v : Value} {L : List (List UInt8)} (h : RowsR w B C v L) : ∃ a c, v = .slice a L.length c ∧ L.length ≤ c := by
  obtain ⟨xs, ho, _⟩ := h
  obtain ⟨a, c, rfl⟩ := ownsRow_shape ho
  refine ⟨a, c, rfl, ?_⟩
  rcases ho.2 with ⟨hv, h0⟩ | ⟨g, cap, cur, hv, _, _, hnc, _⟩
  · omega
  · simp only [Value.slice.injEq] at hv
    omega

/-- The first s0 bytes stand as they were. -/
structure Kq (s0 : Nat) (now0 : List UInt8) (s : Nat) (now : List UInt8) (ys : List (Nat × List UInt8)) : Prop where
  hs : s0 ≤ s
  hn : ∀ x, x < s0 → now[x]? = now0[x]?
  hl : Low s0 now0 ys

theorem Kq.app {s0 s n : Nat} {now0 now l : List UInt8} {ys : List (Nat × List UInt8)} (h : Kq s0 now0 s now ys) (hn : now.length = 32 * n) : Kq s0 now0 (asz n s l) (anow n s l now) (ys ++ ablk n s l now) :=
  ⟨Nat.le_trans h.hs (asz_ge n s l), fun x hx => (anow_low hn (Nat.lt_of_lt_of_le hx h.hs)).trans (h.hn x hx), h.hl.append (Low.ablk hn h.hs h.hn)⟩

set_option maxHeartbeats 16000000 in
set_option maxRecDepth 100000 in
theorem walk (a0 : Option Addr) (len0 cap0 : Nat) (L : List (List UInt8)) (a1 : Option Addr) (len1 cap1 : Nat) (M : List (List UInt8)) (a2 : Option Addr) (len2 cap2 : Nat) (lost : List Bool) (T : Int) (W : World) (w0 : RbR W W.heap.size (.slice a0 len0 cap0) L) (w1 : RbR W W.heap.size (.slice a1 len1 cap1) M) (w2 : RbB W W.heap.size 4 (.slice a2 len2 cap2) lost) (w3 : (Lit.int .i64 T).wf = true) :
    Calls Try.prog 5 #[.slice a0 len0 cap0, .slice a1 len1 cap1, .slice a2 len2 cap2, .int .i64 T] W fun e w' => e = .returned (.bool true) ∧ Below W.heap.size W w' := by
  have HL := Lib.hid w0; have HM := Lib.hid w1; have HB := Lib.hid w2
  obtain ⟨_, _, hv, _, hrows⟩ := w0
  simp only [Value.slice.injEq] at hv
  obtain ⟨rfl, rfl, rfl⟩ := hv
  obtain ⟨_, _, hv, _, hrowsM⟩ := w1
  simp only [Value.slice.injEq] at hv
  obtain ⟨rfl, rfl, rfl⟩ := hv
  have HR := Lib.hid hrows; have HRM := Lib.hid hrowsM
  obtain ⟨i0, hi, hz0, hz1, hz2⟩ := info_parts Try.infoL
  have I := Lib.hid (And.intro hi (And.intro hz0 (And.intro hz1 hz2)))
  clear w2 w3 hrows hrowsM hi hz0 hz1 hz2
  go_enter Try.func5, Try.ntmps5
  go_wp2_with fail
  refine (fresh_any W).mono ?_
  rintro e w1 ⟨rfl, hk⟩
  have K1 := Lib.hid hk
  have hzW := hk.size
  clear hk
  go_wp2_with fail
  refine (few_any _ L w1 W.heap.size (HL.out.keep K1.out)).mono ?_
  rintro e wf ⟨r, rfl, hr, rfl⟩
  cases r with
  | false =>
    go_wp2_with fail
    refine (fresh_any _).mono ?_
    rintro e w2 ⟨rfl, hk⟩
    have K2 := Lib.hid (K1.out.trans hk (by simp))
    clear hk
    go_wp2
    go_ret
    exact ⟨rfl, K2.out.below (Nat.le_refl _) (by simp)⟩
  | true =>
  obtain ⟨hL12, hL100⟩ := hr rfl
  have HF := Lib.hid (And.intro hL12 hL100)
  clear hr hL100 hL12
  go_wp2_with fail
  refine (few_any _ M w1 W.heap.size (HM.out.keep K1.out)).mono ?_
  rintro e wf ⟨r, rfl, hr, rfl⟩
  cases r with
  | false =>
    go_wp2_with fail
    refine (fresh_any _).mono ?_
    rintro e w2 ⟨rfl, hk⟩
    have K2 := Lib.hid (K1.out.trans hk (by simp))
    clear hk
    go_wp2
    go_ret
    exact ⟨rfl, K2.out.below (Nat.le_refl _) (by simp)⟩
  | true =>
  obtain ⟨hM12, hM100⟩ := hr rfl
  have HFM := Lib.hid (And.intro hM12 hM100)
  clear hr hM100 hM12
  by_cases h60 : (60 : Int) < (len2 : Int)
  · skip
    go_wp2_with fail
    refine (fresh_any _).mono ?_
    rintro e w2 ⟨rfl, hk⟩
    have K2 := Lib.hid (K1.out.trans hk (by simp))
    clear hk
    go_wp2
    go_ret
    exact ⟨rfl, K2.out.below (Nat.le_refl _) (by simp)⟩
  go_wp2_with fail
  refine (new_any 100 w1).mono ?_
  rintro e w2 ⟨p, gn, gs, rfl, hd, hk⟩
  have e100 : clampN 100 = 100 := by decide
  rw [e100] at hd
  have D2 := Lib.hid hd; have K2 := Lib.hid hk
  have hz2 := hk.size
  clear hd hk
  go_wp2_with fail
  refine (rnew_any 100 w2).mono ?_
  rintro e w3 ⟨q, vs3, rfl, hr, hk⟩
  rw [e100] at hr
  have R3 := Lib.hid (rf_lower hr hz2); have K3 := Lib.hid (K2.out.trans hk (by simp))
  have D3 := Lib.hid (D2.out.frame (Fr.ofKept hk 0 []) (by simp) (by simp) (by simp))
  clear hr hk e100
  go_wp2_with fail
  refine (open_any D3.out rfl (by decide) K3.out.size).mono ?_
  rintro e w4 ⟨lg, vr4, rfl, O4⟩
  have HO4 := Lib.hid O4
  obtain ⟨_, _, _, _, _, _, _, hf, _⟩ := O4
  have R4 := Lib.hid (R3.out.frame hf (Nat.le_refl _) (by decide) (by decide) (by decide)); have K4 := Lib.hid (kept_fr K3.out hf)
  clear hf
  go_wp2_with fail
  refine (ropen_any R4.out (noughts 100) rfl (by decide) K4.out.size).mono ?_
  rintro e w5 ⟨rl, vr5, rfl, O5⟩
  obtain ⟨⟨safe, v5, vs, vw5, hp5⟩, _, _⟩ := wp_opened K3.out R4.out HO4.out O5
  rw [scan_noughts] at hp5
  obtain ⟨now5, hnow5⟩ : ∃ now5, now5 = clr (noughts 100) := ⟨_, rfl⟩
  rw [← hnow5] at hp5
  have P5 : Hid (Wp w1 w5 p gn gs q 100 lg rl now5 safe [] v5 vs vw5 0 0) := Lib.hid hp5
  clear O5 hp5 D2 K2 D3 R3 K3 HO4 R4 K4 hnow5
  go_wp2
  go_loopw [16, 18] (fun s16 t wr => ∃ (k : Nat) (acc : List (List UInt8)) (now : List UInt8) (ws : List Wt) (v vw : Value) (s : Nat), t = .int .i64 k ∧ k ≤ L.length ∧ acc.length ≤ k ∧ Wp w1 wr p gn gs q 100 lg rl now safe ws v vs vw s (100 * k) ∧ Kp now acc s ∧ RowsA wr w1.heap.size W.heap.size s16 acc) (fun _ t _ => L.length - (intOf t).toNat)
  case atStart => exact ⟨0, [], now5, [], v5, vw5, 0, rfl, Nat.zero_le _, Nat.le_refl _, P5.out, Kp.nil, RowsA.nil _ _ _⟩
  case round =>
    obtain ⟨k, acc, now, ws, v, vw, s, rfl, hk, hka, hp, hkp, hra⟩ := hrel
    have P := Lib.hid hp; have KP := Lib.hid hkp; have A := Lib.hid hra
    obtain ⟨sa, sc, hsv, hsc⟩ := hra.shape
    subst hsv
    clear hp hkp hra P5
    by_cases hlt : k < L.length
    · skip
      obtain ⟨b, o, rfl, hx⟩ := HR.out (by omega)
      obtain ⟨u, hu, hrb⟩ := hx k hlt
      have hx100 := HF.out.2 _ (List.getElem_mem hlt)
      obtain ⟨x, hxe⟩ : ∃ x, x = L[k] := ⟨_, rfl⟩
      rw [← hxe] at hx100 hrb
      have HU := Lib.hid hu; have RX := Lib.hid hrb
      obtain ⟨ua, uc, huv, _⟩ := hrb
      subst huv
      have hc := (K1.out.trans P.out.K (by simp)).cell (p := ⟨b, o + k, none⟩) (by simp) hu
      have x1 : (k : Int) < (L.length : Int) := by omega
      have hkb : (k : Int) ≤ 12 := by have := HF.out.1; omega
      have hwsb : ws.length ≤ 900000 := by have := P.out.hm; omega
      clear hx hu hxe
      go_wp2_with fail
      refine (rappend_all P.out.R P.out.H now P.out.N P.out.hs _ x (RX.out.rd.kept (K1.out.trans P.out.K (by simp)) (by simp)) (by simpa [pairs] using hwsb) P.out.size P.out.br).mono ?_
      rintro e w6 ⟨rfl, A1⟩
      have HA1 := Lib.hid A1
      obtain ⟨_, _, _, hf⟩ := A1
      have D6 := Lib.hid (P.out.D.frame hf (by decide) (by decide) (by decide)); have G6 := Lib.hid (P.out.G.frame hf (by decide)); have K6 := Lib.hid (kept_fr P.out.K hf)
      have F6 := Lib.hid (hf.mono (Nat.le_refl _) (fun t ht => List.mem_append.2 (.inl ht)) : Fr w1.heap.size (rlts ++ lts) _ _)
      have hc := (K1.out.trans K6.out (by simp)).cell (p := ⟨b, o + k, none⟩) (by simp) HU.out
      clear hf
      cases hok : aokB 100 s x with
      | false =>
        have c2 := Lib.hid (append_all D6.out G6.out P.out.hs _ x (RX.out.rd.kept (K1.out.trans K6.out (by simp)) (by simp)) hwsb K6.out.size P.out.bl)
        have hne : (aeI 100 s x == 0) = false := by rw [ae_ok, hok]
        have Hok := Lib.hid hok
        clear hok
        go_wp2_with fail
        refine c2.out.mono ?_
        rintro e w7 ⟨rfl, A2⟩
        obtain ⟨ws7, v7, vw7, hp7, hpw⟩ := wp_appendD P.out HA1.out A2
        obtain ⟨_, _, _, _, _, _, hf⟩ := A2
        have P7 := Lib.hid hp7; have PW := Lib.hid hpw
        have F7 := Lib.hid (F6.out.trans (hf.mono (Nat.le_refl _) (fun t ht => List.mem_append.2 (.inr ht))))
        have A7 := Lib.hid (A.out.frame F7.out hzW (by decide) (by decide))
        have KP7 := Lib.hid (KP.out.app (n := 100) (l := x) P.out.D.ln)
        clear c2 hp7 hpw hf
        go_wp2
        go_roundw
        case rel => exact ⟨k + 1, acc, _, ws7, v7, vw7, _, by go_num, by omega, by omega, by rw [Nat.mul_add]; exact P7.out, by have h := KP7.out; rw [aacc, Hok.out] at h; exact h, A7.out⟩
        case measure => simp [intOf]; omega
      | true =>
        have c2 := append_all D6.out G6.out P.out.hs _ x (RX.out.rd.kept (K1.out.trans K6.out (by simp)) (by simp)) hwsb K6.out.size P.out.bl
        rw [show aeI 100 s x = 0 by rw [aeI, hok]; rfl] at c2
        have Hok := Lib.hid hok
        have C2 := Lib.hid c2
        clear hok c2
        go_wp2_with fail
        refine C2.out.mono ?_
        rintro e w7 ⟨rfl, A2⟩
        obtain ⟨ws7, v7, vw7, hp7, hpw⟩ := wp_appendD P.out HA1.out A2
        obtain ⟨_, _, _, _, _, _, hf⟩ := A2
        have P7 := Lib.hid hp7; have PW := Lib.hid hpw
        have F7 := Lib.hid (F6.out.trans (hf.mono (Nat.le_refl _) (fun t ht => List.mem_append.2 (.inr ht))))
        have hz7 := P7.out.size
        have hc := (K1.out.trans P7.out.K (by simp)).cell (p := ⟨b, o + k, none⟩) (by simp) HU.out
        have A7 := Lib.hid (A.out.frame F7.out hzW (by decide) (by decide))
        have KP7 := Lib.hid (KP.out.app (n := 100) (l := x) P.out.D.ln)
        obtain ⟨xs, ho, hl, hr⟩ := id A7.out
        have HXS := Lib.hid (And.intro ho (And.intro hl hr))
        clear C2 hp7 hpw hf ho hl hr
        go_wp2_with (at_builtin; refine wpList_append_fr _ rfl (.tmp 76) (.tmp 81) 29 29 rfl w1.heap.size 36 i0 (.slice none 0 0) 1 24 Try.underlying29 I.out.1 I.out.2.1 I.out.2.2.1 I.out.2.2.2 rfl _ acc.length xs rfl ?ho76 _ 1 [.slice ua x.length uc] rfl (src_one Try.underlying29 w7 _ rfl _) ?ba76 ?bb76 ?bc76 ?nx76)
        case ho76 => exact ownsRow_frame HXS.out.1 ((Fr.refl 0 [] w7).alloc _) (by simp)
        case ba76 => simp only [maxLen]; omega
        case bb76 => omega
        case bc76 => simp; omega
        case nx76 =>
          intro v8 w8 ho8 hf8 _
          have hf9 : Fr w1.heap.size [36] w7 w8 := ((Fr.refl _ _ w7).alloc _).trans hf8
          have A8 := Lib.hid (RowsA.app HXS.out.2.1 HXS.out.2.2 (RX.out.frame (Fr.ofKept (K1.out.trans P7.out.K (by simp)) W.heap.size []) (Nat.le_refl _) (by simp)) ho8 hf9 hzW)
          have P8 := Lib.hid (wp_fr P7.out (hf9))
          have F9 := Lib.hid hf9
          have hz9 := hf9.size
          clear ho8 hf8 hf9
          go_wp2
          go_roundw
          case rel => exact ⟨k + 1, acc ++ [x], _, ws7, v7, vw7, _, by go_num, by omega, by simp; omega, by rw [Nat.mul_add]; exact P8.out, by have h := KP7.out; rw [aacc, Hok.out] at h; exact h, A8.out⟩
          case measure => simp [intOf]; omega
    · obtain rfl : k = L.length := by omega
      have x1 : ¬ (L.length : Int) < (L.length : Int) := by omega
      have hL12 := HF.out.1
      have hwsb : ws.length ≤ 900000 := by have := P.out.hm; omega
      go_wp2_with fail
      refine (lsync_any P.out.D P.out.G (by omega)).mono ?_
      rintro e w6 ⟨rfl, hd, hf⟩
      have R6 := Lib.hid (P.out.R.frame hf (Nat.le_refl _) (by decide) (by decide) (by decide)); have K6 := Lib.hid (kept_fr P.out.K hf); have D6 := Lib.hid hd; have F6 := Lib.hid hf
      have A6 := Lib.hid (A.out.frame hf hzW (by decide) (by decide))
      clear hd hf
      go_wp2_with fail
      refine (rsync_any R6.out (by simp only [pairs, List.length_map]; omega) K6.out.size).mono ?_
      rintro e w7 ⟨rfl, vs7, hr, hf⟩
      have P7 := Lib.hid (P.out.sync D6.out F6.out hr hf)
      have A7 := Lib.hid (A6.out.frame hf hzW (by decide) (by decide))
      have hz7 := P7.out.size
      obtain ⟨xs, ho, hl, hr2⟩ := id A7.out
      have HXS := Lib.hid (And.intro ho (And.intro hl hr2))
      clear hr hf ho hl hr2 R6 K6 D6 F6 A6 A
      have KW := Lib.hid KP.out
      have HW7 := Lib.hid (RowsA.lt A7.out)
      obtain ⟨bs, hbs⟩ : ∃ bs, bs = w7.heap.size := ⟨_, rfl⟩
      have hzb : w1.heap.size ≤ bs := by omega
      have hzc : W.heap.size ≤ bs := by omega
      have HBS := Lib.hid hbs
      clear KP hbs
      go_wp2_with (at_builtin; refine wpList_append_fr w7 rfl (.tmp 87) (.tmp 88) 29 29 rfl bs 36 i0 (.slice none 0 0) 1 24 Try.underlying29 I.out.1 I.out.2.1 I.out.2.2.1 I.out.2.2.2 rfl (.slice none 0 0) 0 [] rfl (World.ownsRow_nil _ _ _ _) _ acc.length xs rfl (rowsA_src Try.underlying29 HXS.out.1 HXS.out.2.1 HXS.out.2.2) ?ba ?bb ?bc ?nx)
      case ba => simp only [maxLen]; omega
      case bb => omega
      case bc => have := HBS.out; omega
      case nx =>
      intro v8 w8 ho8 hf8 _
      have hbs := HBS.out
      have A8 := Lib.hid (RowsA.copy HXS.out.2.1 HXS.out.2.2 ho8 hf8 hzc)
      have P8 := Lib.hid (wp_fr P7.out (hf8.mono hzb (fun _ h => h)))
      have HWb := Lib.hid (show ∀ b, (Value.slice sa acc.length sc).ownBlock = some b → b < bs from fun b hb => by have := HW7.out b hb; omega)
      have AW8 := Lib.hid (RowsA.stand A7.out HWb.out hf8 hzc)
      have hz8 : bs ≤ w8.heap.size := by have := hf8.size; omega
      obtain ⟨Y, hY⟩ : ∃ Y, Y = L.length := ⟨_, rfl⟩
      clear ho8 hf8 HXS HW7 P7 A7 hbs HBS hz7 P hwsb hY
      go_wp2
      go_loopw [17, 19] (fun s17 t wz => ∃ (kq : Nat) (accq : List (List UInt8)) (nowq : List UInt8) (wsq : List Wt) (vq vwq : Value) (sq : Nat), t = .int .i64 kq ∧ kq ≤ M.length ∧ accq.length ≤ 12 + kq ∧ Wp w1 wz p gn gs q 100 lg rl nowq now wsq vq vs7 vwq sq (100 * kq) ∧ Kq s now sq nowq (pairs wsq) ∧ bs ≤ wz.heap.size ∧ RowsA wz bs W.heap.size s17 accq ∧ RowsA wz w1.heap.size W.heap.size (.slice sa acc.length sc) acc) (fun _ t _ => M.length - (intOf t).toNat)
      case atStart => exact ⟨0, acc, now, [], _, _, s, rfl, Nat.zero_le _, by omega, { P8.out with hm := Nat.zero_le _ }, ⟨Nat.le_refl _, fun _ _ => rfl, fun y hy => by simp [pairs] at hy⟩, hz8, A8.out, AW8.out⟩
      case round =>
        obtain ⟨kq, accq, nowq, wsq, vq, vwq, sq, rfl, hkq, hkaq, hpq, hkqq, hbz, hraq, hrwq⟩ := hrel
        have P := Lib.hid hpq; have KQ := Lib.hid hkqq; have A := Lib.hid hraq; have AW := Lib.hid hrwq
        obtain ⟨ea, ec, hev, hec⟩ := hraq.shape
        subst hev
        clear hpq hkqq hraq hrwq P8 A8 AW8
        by_cases hltq : kq < M.length
        · skip
          obtain ⟨b, o, rfl, hx⟩ := HRM.out (by omega)
          obtain ⟨u, hu, hrb⟩ := hx kq hltq
          have hx100 := HFM.out.2 _ (List.getElem_mem hltq)
          obtain ⟨x, hxe⟩ : ∃ x, x = M[kq] := ⟨_, rfl⟩
          rw [← hxe] at hx100 hrb
          have HU := Lib.hid hu; have RX := Lib.hid hrb
          obtain ⟨ua, uc, huv, _⟩ := hrb
          subst huv
          have hc := (K1.out.trans P.out.K (by simp)).cell (p := ⟨b, o + kq, none⟩) (by simp) hu
          have x1 : (kq : Int) < (M.length : Int) := by omega
          have hkb : (kq : Int) ≤ 12 := by have := HFM.out.1; omega
          have hwsb : wsq.length ≤ 900000 := by have := P.out.hm; omega
          clear hx hu hxe
          go_wp2_with fail
          refine (rappend_all P.out.R P.out.H nowq P.out.N P.out.hs _ x (RX.out.rd.kept (K1.out.trans P.out.K (by simp)) (by simp)) (by simpa [pairs] using hwsb) P.out.size P.out.br).mono ?_
          rintro e w6 ⟨rfl, A1⟩
          have HA1 := Lib.hid A1
          obtain ⟨_, _, _, hf⟩ := A1
          have D6 := Lib.hid (P.out.D.frame hf (by decide) (by decide) (by decide)); have G6 := Lib.hid (P.out.G.frame hf (by decide)); have K6 := Lib.hid (kept_fr P.out.K hf)
          have F6 := Lib.hid (hf.mono (Nat.le_refl _) (fun t ht => List.mem_append.2 (.inl ht)) : Fr w1.heap.size (rlts ++ lts) _ _)
          have hc := (K1.out.trans K6.out (by simp)).cell (p := ⟨b, o + kq, none⟩) (by simp) HU.out
          clear hf
          cases hok : aokB 100 sq x with
          | false =>
            have c2 := Lib.hid (append_all D6.out G6.out P.out.hs _ x (RX.out.rd.kept (K1.out.trans K6.out (by simp)) (by simp)) hwsb K6.out.size P.out.bl)
            have hne : (aeI 100 sq x == 0) = false := by rw [ae_ok, hok]
            have Hok := Lib.hid hok
            clear hok
            go_wp2_with fail
            refine c2.out.mono ?_
            rintro e w7 ⟨rfl, A2⟩
            obtain ⟨ws7, v7, vw7, hp7, hpw⟩ := wp_appendD P.out HA1.out A2
            obtain ⟨_, _, _, _, _, _, hf⟩ := A2
            have P7 := Lib.hid hp7; have PW := Lib.hid hpw
            have F7 := Lib.hid (F6.out.trans (hf.mono (Nat.le_refl _) (fun t ht => List.mem_append.2 (.inr ht))))
            have A7 := Lib.hid (A.out.frame F7.out hzW (by decide) (by decide)); have AW7 := Lib.hid (AW.out.frame F7.out hzW (by decide) (by decide))
            have hbz7 : bs ≤ w7.heap.size := Nat.le_trans hbz F7.out.size
            have KQ7 := Lib.hid (show Kq s now (asz 100 sq x) (anow 100 sq x nowq) (pairs ws7) by rw [PW.out]; exact KQ.out.app P.out.D.ln)
            clear c2 hp7 hpw hf
            go_wp2
            go_roundw
            case rel => exact ⟨kq + 1, accq, _, ws7, v7, vw7, _, by go_num, by omega, by omega, by rw [Nat.mul_add]; exact P7.out, KQ7.out, hbz7, A7.out, AW7.out⟩
            case measure => simp [intOf]; omega
          | true =>
            have c2 := append_all D6.out G6.out P.out.hs _ x (RX.out.rd.kept (K1.out.trans K6.out (by simp)) (by simp)) hwsb K6.out.size P.out.bl
            rw [show aeI 100 sq x = 0 by rw [aeI, hok]; rfl] at c2
            have Hok := Lib.hid hok
            have C2 := Lib.hid c2
            clear hok c2
            go_wp2_with fail
            refine C2.out.mono ?_
            rintro e w7 ⟨rfl, A2⟩
            obtain ⟨ws7, v7, vw7, hp7, hpw⟩ := wp_appendD P.out HA1.out A2
            obtain ⟨_, _, _, _, _, _, hf⟩ := A2
            have P7 := Lib.hid hp7; have PW := Lib.hid hpw
            have F7 := Lib.hid (F6.out.trans (hf.mono (Nat.le_refl _) (fun t ht => List.mem_append.2 (.inr ht))))
            have hz7 := Nat.le_trans hbz F7.out.size
            have hc := (K1.out.trans P7.out.K (by simp)).cell (p := ⟨b, o + kq, none⟩) (by simp) HU.out
            have A7 := Lib.hid (A.out.frame F7.out hzW (by decide) (by decide)); have AW7 := Lib.hid (AW.out.frame F7.out hzW (by decide) (by decide))
            have hbz7 : bs ≤ w7.heap.size := Nat.le_trans hbz F7.out.size
            have KQ7 := Lib.hid (show Kq s now (asz 100 sq x) (anow 100 sq x nowq) (pairs ws7) by rw [PW.out]; exact KQ.out.app P.out.D.ln)
            obtain ⟨xs, ho, hl, hr⟩ := id A7.out
            have HXS := Lib.hid (And.intro ho (And.intro hl hr))
            clear C2 hp7 hpw hf ho hl hr
            go_wp2_with (at_builtin; refine wpList_append_fr _ rfl (.tmp 109) (.tmp 114) 29 29 rfl bs 36 i0 (.slice none 0 0) 1 24 Try.underlying29 I.out.1 I.out.2.1 I.out.2.2.1 I.out.2.2.2 rfl _ accq.length xs rfl ?ho109 _ 1 [.slice ua x.length uc] rfl (src_one Try.underlying29 w7 _ rfl _) ?ba109 ?bb109 ?bc109 ?nx109)
            case ho109 => exact ownsRow_frame HXS.out.1 ((Fr.refl 0 [] w7).alloc _) (by simp)
            case ba109 => simp only [maxLen]; omega
            case bb109 => omega
            case bc109 => simp; omega
            case nx109 =>
              intro v8 w8 ho8 hf8 _
              have hf9 : Fr bs [36] w7 w8 := ((Fr.refl _ _ w7).alloc _).trans hf8
              have A8 := Lib.hid (RowsA.app HXS.out.2.1 HXS.out.2.2 (RX.out.frame (Fr.ofKept (K1.out.trans P7.out.K (by simp)) W.heap.size []) (Nat.le_refl _) (by simp)) ho8 hf9 hzc)
              have P8 := Lib.hid (wp_fr P7.out (hf9.mono hzb (fun _ h => h)))
              have F9 := Lib.hid hf9
              have hz9 := hf9.size
              have AW8 := Lib.hid (RowsA.stand AW7.out HWb.out hf9 hzc)
              have hbz8 : bs ≤ w8.heap.size := Nat.le_trans hbz7 hz9
              clear ho8 hf8 hf9
              go_wp2
              go_roundw
              case rel => exact ⟨kq + 1, accq ++ [x], _, ws7, v7, vw7, _, by go_num, by omega, by simp; omega, by rw [Nat.mul_add]; exact P8.out, KQ7.out, hbz8, A8.out, AW8.out⟩
              case measure => simp [intOf]; omega
        · obtain rfl : kq = M.length := by omega
          have x1 : ¬ (M.length : Int) < (M.length : Int) := by omega
          have hM12 := HFM.out.1
          have hwsb : wsq.length ≤ 900000 := by have := P.out.hm; omega
          have rlW : Hid (∀ V : World, Kept W V [] → RbB V w1.heap.size 4 (.slice a2 len2 cap2) lost) := Lib.hid (fun _ hV => RbB.mono (HB.out.frame (Fr.ofKept hV W.heap.size []) (Nat.le_refl _) (by simp)) hzW)
          go_wp2_with fail
          refine (crash_any P.out.D (by omega) _ _ (rlW.out _ (K1.out.trans P.out.K (by simp))) T).mono ?_
          rintro e w6 ⟨rfl, hd, hf⟩
          have R6 := Lib.hid (P.out.R.frame hf (Nat.le_refl _) (by decide) (by decide) (by decide)); have K6 := Lib.hid (kept_fr P.out.K hf); have D6 := Lib.hid hd; have F6 := Lib.hid hf
          have A6 := Lib.hid (A.out.frame hf hzW (by decide) (by decide)); have AW6 := Lib.hid (AW.out.frame hf hzW (by decide) (by decide))
          clear hd hf A AW
          go_wp2_with fail
          refine (rcrash_any R6.out (by simp only [pairs, List.length_map]; omega) K6.out.size _ _ (rlW.out _ (K1.out.trans K6.out (by simp))) T).mono ?_
          rintro e w7 ⟨rfl, vr7, hr, hf⟩
          obtain ⟨hd7, hr7, hk7⟩ := P.out.crash D6.out F6.out hr hf
          obtain ⟨X, hX⟩ : ∃ X, X = crashed lost T wsq now := ⟨_, rfl⟩
          rw [← hX] at hd7 hr7
          have HX : Hid (∃ rest, scan X = acc ++ rest) := Lib.hid (by
            rw [hX, crashed]
            exact found_first KW.out (Low.laid (n := 100) P.out.D.ls _ now P.out.D.ls (left_ok 100 lost T wsq.length (pairs wsq) 0 P.out.R.ok) (Low.left lost T wsq.length (pairs wsq) 0 KQ.out.hl) (fun _ _ => rfl)))
          have D7 := Lib.hid hd7; have R7 := Lib.hid hr7; have K7 := Lib.hid hk7
          have A7 := Lib.hid (A6.out.frame hf hzW (by decide) (by decide)); have AW7 := Lib.hid (AW6.out.frame hf hzW (by decide) (by decide))
          clear hr hf hd7 hr7 hk7 hX P KQ KW R6 K6 D6 F6 A6 AW6 hwsb rlW
          go_wp2_with fail
          refine (open_any D7.out rfl (by decide) K7.out.size).mono ?_
          rintro e w8 ⟨lg8, vr8, rfl, O8⟩
          have HO8 := Lib.hid O8
          obtain ⟨_, _, _, _, _, _, _, hf, _⟩ := O8
          have R8 := Lib.hid (R7.out.frame hf (Nat.le_refl _) (by decide) (by decide) (by decide)); have K8 := Lib.hid (kept_fr K7.out hf)
          have A8 := Lib.hid (A7.out.frame hf hzW (by decide) (by decide)); have AW8 := Lib.hid (AW7.out.frame hf hzW (by decide) (by decide))
          clear hf
          go_wp2_with fail
          refine (ropen_any R8.out X rfl (by decide) K8.out.size).mono ?_
          rintro e w9 ⟨rl9, vr9, rfl, O9⟩
          obtain ⟨_, hra, hrb⟩ := wp_opened K7.out R8.out HO8.out O9
          obtain ⟨_, _, _, _, _, _, _, _, hf, _⟩ := O9
          have K9 := Lib.hid (kept_fr K8.out hf)
          have A9 := Lib.hid (A8.out.frame hf hzW (by decide) (by decide)); have AW9 := Lib.hid (AW8.out.frame hf hzW (by decide) (by decide))
          have hXl : X.length ≤ 1000000 := by have := R7.out.ls; omega
          have HF2 : Hid ((scan X).length ≤ 1000000 ∧ ∀ x ∈ scan X, x.length ≤ 1000000) := Lib.hid ⟨by have := (szs_len (scan X)).1; have := szs_scan X.length X (Nat.le_refl _); omega, fun x hx => by have := (szs_len (scan X)).2 x hx; have := szs_scan X.length X (Nat.le_refl _); omega⟩
          obtain ⟨F, hF⟩ : ∃ F, F = scan X := ⟨_, rfl⟩
          rw [← hF] at hra hrb HX HF2
          have hacc : acc.length ≤ F.length := by
            obtain ⟨rest, h⟩ := HX.out
            rw [h, List.length_append]
            omega
          have HT : Hid (F.take acc.length = acc) := Lib.hid (by
            obtain ⟨rest, h⟩ := HX.out
            rw [h, List.take_left])
          obtain ⟨fa, fc, hvf, hfc⟩ := RowsR.shape hra
          subst hvf
          have RA := Lib.hid hra; have RB := Lib.hid hrb
          have HS : Hid (∀ V, Kept w9 V [] → Calls Try.prog 25 #[.slice fa F.length fc, vr9] V fun e w' => e = .returned (.bool true) ∧ Kept V w' []) := Lib.hid (fun V hV => same_any _ _ F (hra.frame (Fr.ofKept hV 0 []) (Nat.le_refl _) (by simp) (by simp)) (hrb.frame (Fr.ofKept hV 0 []) (Nat.le_refl _) (by simp) (by simp)) HF2.out.1 HF2.out.2)
          have HS2 : Hid (∀ V, Kept w9 V [] → Calls Try.prog 25 #[.slice fa acc.length fc, .slice sa acc.length sc] V fun e w' => e = .returned (.bool true) ∧ Kept V w' []) := Lib.hid (fun V hV => by
            have ht := rowsR_take (hra.frame (Fr.ofKept hV 0 []) (Nat.le_refl _) (by simp) (by simp)) hacc
            rw [HT.out] at ht
            refine same_any _ _ acc ht (AW9.out.keep hV).rows (by have := HF2.out.1; omega) (fun x hx => HF2.out.2 x ?_)
            obtain ⟨rest, h⟩ := HX.out
            rw [h]
            exact List.mem_append.2 (.inl hx))
          have x2 : ¬ (F.length : Int) < (acc.length : Int) := by omega
          have x3 : (acc.length : Int) ≤ (fc : Int) := by omega
          have d3 : decide (F.length < acc.length) = false := decide_eq_false (by omega)
          have d4 : decide ((F.length : Int) < (acc.length : Int)) = false := decide_eq_false (by omega)
          have k9 := Kept.refl w9 []
          clear hf hra hrb hF hXl
          go_wp2_with fail
          refine (HS2.out _ ?_).mono ?_
          · first | exact k9 | exact k9.drew
          rintro e w10 ⟨rfl, hk⟩
          have K10 := Lib.hid (k9.trans hk (by simp)); have HACC := Lib.hid hacc
          clear hk hacc x2 x3 d3 d4
          go_wp2
          go_loopw [25] (fun t wy => ∃ i : Nat, t = .int .i64 i ∧ acc.length ≤ i ∧ i ≤ F.length ∧ Kept w9 wy []) (fun t _ => F.length - (intOf t).toNat)
          case atStart => exact ⟨acc.length, rfl, Nat.le_refl _, HACC.out, K10.out⟩
          case round =>
            obtain ⟨i, rfl, hai, hi, hky⟩ := hrel
            have KY := Lib.hid hky; clear hky
            by_cases hlt2 : i < F.length
            · have x4 : (i : Int) < (F.length : Int) := by omega
              by_cases hall : i < accq.length
              · obtain ⟨gf, cf, hef, _, hcf⟩ := RA.out.at (by rintro rfl; simp at hlt2)
                simp only [Value.slice.injEq, true_and] at hef
                obtain ⟨rfl, rfl⟩ := hef
                obtain ⟨b1, c1, q1, r1⟩ := hcf i hlt2
                obtain ⟨ge, ce, hee, _, hce⟩ := A9.out.rows.at (by rintro rfl; simp at hall)
                simp only [Value.slice.injEq, true_and] at hee
                obtain ⟨rfl, rfl⟩ := hee
                obtain ⟨b2, c2, q2, r2⟩ := hce i hall
                have hlx := HF2.out.2 F[i] (List.getElem_mem hlt2)
                obtain ⟨x, hx⟩ : ∃ x, x = F[i] := ⟨_, rfl⟩
                obtain ⟨y, hy⟩ : ∃ y, y = accq[i] := ⟨_, rfl⟩
                rw [← hx] at q1 r1 hlx
                rw [← hy] at q2 r2
                obtain ⟨r, hr⟩ : ∃ r, r = (x == y) := ⟨_, rfl⟩
                have Z := Lib.hid (And.intro q1 q2)
                have HBy : Hid (∀ V, Kept w9 V [] → Calls Try.prog 26 #[.slice b1 x.length c1, .slice b2 y.length c2] V fun e w' => e = .returned (.bool r) ∧ Kept w9 w' []) := Lib.hid (fun V hV => by
                  refine (alike_any _ _ x y V (r1.kept hV (by simp)) (r2.kept hV (by simp)) (by omega)).mono ?_
                  rintro e w' ⟨rfl, hk⟩
                  exact ⟨by rw [hr], hV.trans hk (by simp)⟩)
                have x5 : ¬ (accq.length : Int) ≤ (i : Int) := by omega
                have x6 : (i : Int) < (accq.length : Int) := by omega
                have d1 : decide (accq.length ≤ i) = false := decide_eq_false (by omega)
                have d2 : decide ((accq.length : Int) ≤ (i : Int)) = false := decide_eq_false (by omega)
                have k8 := KY.out.drew
                have y2 := And.intro (k8.cell (p := ⟨gf, i, none⟩) (by simp) Z.out.1) (k8.cell (p := ⟨ge, i, none⟩) (by simp) Z.out.2)
                clear hx hy hr q1 q2 r1 r2 hcf hce
                cases r with
                | true =>
                  go_wp2_with fail
                  go_region_held3 (fun V => V.cell? ⟨gf, i, none⟩ = some (.slice b1 x.length c1) ∧ V.cell? ⟨ge, i, none⟩ = some (.slice b2 y.length c2)) (exact y2)
                    (first
                      | (go_at_call 26; refine (HBy.out _ ?_).mono ?_; assumption; rintro e w8 ⟨rfl, k8⟩; have y2 := And.intro (k8.cell (p := ⟨gf, i, none⟩) (by simp) Z.out.1) (k8.cell (p := ⟨ge, i, none⟩) (by simp) Z.out.2)))
                  clear d1 d2
                  go_wp2
                  go_roundw
                  case rel => exact ⟨i + 1, by go_num, by omega, by omega, k8⟩
                  case measure => simp [intOf]; omega
                | false =>
                  go_wp2_with fail
                  go_region_held3 (fun V => V.cell? ⟨gf, i, none⟩ = some (.slice b1 x.length c1) ∧ V.cell? ⟨ge, i, none⟩ = some (.slice b2 y.length c2)) (exact y2)
                    (first
                      | (go_at_call 26; refine (HBy.out _ ?_).mono ?_; assumption; rintro e w8 ⟨rfl, k8⟩; have y2 := And.intro (k8.cell (p := ⟨gf, i, none⟩) (by simp) Z.out.1) (k8.cell (p := ⟨ge, i, none⟩) (by simp) Z.out.2)))
                  go_wp2_with fail
                  refine (HS.out _ k8).mono ?_
                  rintro e w11 ⟨rfl, hk⟩
                  go_wp2
                  go_ret
                  exact ⟨rfl, (K1.out.trans (K9.out.trans (k8.trans hk (by simp)) (by simp)) (by simp)).below (Nat.le_refl _) (by simp)⟩
              · have x5 : (accq.length : Int) ≤ (i : Int) := by omega
                go_wp2
                go_quiet (fail)
                go_wp2_with fail
                refine (HS.out _ (KY.out.drewN _)).mono ?_
                rintro e w11 ⟨rfl, hk⟩
                go_wp2
                go_ret
                exact ⟨rfl, (K1.out.trans (K9.out.trans ((KY.out.drewN _).trans hk (by simp)) (by simp)) (by simp)).below (Nat.le_refl _) (by simp)⟩
            · have x4 : ¬ (i : Int) < (F.length : Int) := by omega
              go_wp2
              go_ret
              exact ⟨rfl, (K1.out.trans (K9.out.trans KY.out (by simp)) (by simp)).below (Nat.le_refl _) (by simp)⟩

set_option maxRecDepth 100000 in
theorem lifted (os : Os) (started : os.Started) (H : Type) (enc : TypeId × Value → H) :
    ReturnsInHanded {} Try.checked os 5 .any (Rows.walKeepsSpec.pre6 enc Try.prog Try.f5 Rows.walKeepsRow.domain false) (Rows.walKeepsSpec.post enc Try.prog Try.f5 false true false false) := by
  refine returnsInHanded_of_change (C := Try.checked) own started (by kernel_rfl) Try.func5
    (ChangeSpec.witness6 (enc := enc) (C := Try.checked) false ⟨#[], #[.slice none 0 0, .slice none 0 0, .slice none 0 0, .int .i64 0], []⟩ 8 (by kernel_rfl) (by kernel_rfl) (by kernel_rfl) (by kernel_rfl)) ?_
  intro W base args ds gs before hval0 hW hcnd _
  have hval : ∀ (j : Nat) t v, Try.f5.params[j]? = some t → args[j]? = some v → Value.okWide Try.prog W .any base t v := hval0
  have hW' := hW
  obtain ⟨p, q, hA0, hV, rfl, hfz, hnd⟩ := hW
  have hA : DataW.TrodAll enc Try.prog W 0 (fun _ => true) true Try.f5.params.toList args.toList ds p := hA0
  rw [Try.params5] at hA hval
  obtain ⟨v0, vs0, d0, ds0, p0, q0, hargs, rfl, rfl, h0, r0⟩ := trodAll_cons hA
  obtain ⟨v1, vs1, d1, ds1, p1, q1, rfl, rfl, rfl, h1, r1⟩ := trodAll_cons r0
  obtain ⟨v2, vs2, d2, ds2, p2, q2, rfl, rfl, rfl, h2, r2⟩ := trodAll_cons r1
  obtain ⟨v3, vs3, d3, ds3, p3, q3, rfl, rfl, rfl, h3, r3⟩ := trodAll_cons r2
  obtain ⟨rfl, rfl, rfl⟩ := trodAll_nil r3
  obtain rfl : args = #[v0, v1, v2, v3] := by cases args; simp_all
  obtain ⟨rfl, rfl⟩ := trodVars_none hV
  obtain ⟨a0, len0, cap0, rfl⟩ := okWide_slice Try.underlying29 (hval 0 29 v0 rfl rfl)
  have k0 := h0
  have lt0 : ∀ x ∈ p0, x.block < W.heap.size := by obtain ⟨m, hm⟩ := k0; exact DataW.trod_lt m _ _ _ hm
  obtain ⟨z0, w0⟩ : ∃ l, RbR W W.heap.size (.slice a0 len0 cap0) l := by
    obtain ⟨fuel, hf⟩ := h0
    exact rows_open (by simpa [Value.cells] using hf)
  obtain ⟨a1, len1, cap1, rfl⟩ := okWide_slice Try.underlying29 (hval 1 29 v1 rfl rfl)
  have k1 := h1
  have lt1 : ∀ x ∈ p1, x.block < W.heap.size := by obtain ⟨m, hm⟩ := k1; exact DataW.trod_lt m _ _ _ hm
  obtain ⟨z1, w1⟩ : ∃ l, RbR W W.heap.size (.slice a1 len1 cap1) l := by
    obtain ⟨fuel, hf⟩ := h1
    exact rows_open (by simpa [Value.cells] using hf)
  obtain ⟨a2, len2, cap2, rfl⟩ := okWide_slice Try.underlying37 (hval 2 37 v2 rfl rfl)
  have k2 := h2
  have lt2 : ∀ x ∈ p2, x.block < W.heap.size := by obtain ⟨m, hm⟩ := k2; exact DataW.trod_lt m _ _ _ hm
  obtain ⟨z2, w2⟩ : ∃ l, RbB W W.heap.size 4 (.slice a2 len2 cap2) l := by
    obtain ⟨fuel, hf⟩ := h2
    exact bools_open (by simpa [Value.cells] using hf)
  obtain ⟨a3, rfl, rfl, rfl, w3⟩ := open_int Try.underlying3 (hval 3 3 v3 rfl rfl) h3
  clear hA0 hval0
  refine (walk a0 len0 cap0 z0 a1 len1 cap1 z1 a2 len2 cap2 z2 a3 W w0 w1 w2 w3).mono fun e W' ⟨he, bel⟩ => ?_
  subst he
  exact ⟨_, rfl, _, _, _, [], _, [], hW', trodAll_mk1 (shut_bool Try.underlying4 _), (trodAll_cons_mk (Below.trod laidOut (by kernel_rfl) (of_decide_eq_true (by kernel_rfl)) k0 bel lt0) (trodAll_cons_mk (Below.trod laidOut (by kernel_rfl) (of_decide_eq_true (by kernel_rfl)) k1 bel lt1) (trodAll_cons_mk (Below.trod laidOut (by kernel_rfl) (of_decide_eq_true (by kernel_rfl)) k2 bel lt2) (trodAll_cons_mk (shut_int Try.underlying3 w3) trodAll_mk0)))), rfl, bel.frame _, fun h => by cases h⟩

theorem over : Rows.walKeepsRow.holds Try.pinned (OpenSpec.ofChange Rows.walKeepsSpec) :=
  OpenClaim.holds_of_wide 5 Try.f5 rfl rfl rfl rfl rfl rfl rfl ⟨rfl, rfl, rfl, rfl, rfl⟩ rfl rfl rfl rfl rfl (by kernel_rfl) Try.func5 (by kernel_rfl)
    (of_decide_eq_true (by kernel_rfl)) (by unfold Func.isWrapper; first | (rw [if_pos (by decide +kernel)]; kernel_rfl) | (rw [if_neg (by decide +kernel)]; exact ⟨rfl, rfl⟩))
    (fun os started H enc _ => lifted os started H enc)

theorem proved : Rows.WalKeepsSaid :=
  over
end Go.Proofs.Ytfhdblbiamdplaa.walKeeps

namespace Go.Proofs.Ytfhdblbiamdplaa
theorem walKeeps_holds : Rows.WalKeepsSaid := walKeeps.proved
#print axioms walKeeps_holds
end Go.Proofs.Ytfhdblbiamdplaa

