/-
  The contracts of package block, sixth part: Crash.
-/
import Derived.Test.YtfhdblbiamdplaaDForget
namespace Go.Proofs.Ytfhdblbiamdplaa
open Go.RowKit

/-- What is safe when the first k writes have been gone through. -/
def safeTo (lost : List Bool) (torn : Int) (ws : List Wt) (safe : List UInt8) (k : Nat) : List UInt8 := laid safe (left lost torn ws.length 0 ((pairs ws).take k))

theorem safeTo_step (lost : List Bool) (torn : Int) (ws : List Wt) (safe : List UInt8) (k : Nat) (hk : k < ws.length) :
    safeTo lost torn ws safe (k + 1) = if lost.getD k false then safeTo lost torn ws safe k else lay (safeTo lost torn ws safe k) ws[k].blk (ws[k].bytes.take (if k + 1 = ws.length then min torn.toNat ws[k].size else ws[k].size)) := by
  have e : (pairs ws).take (k + 1) = (pairs ws).take k ++ [ws[k].pair] := by
    rw [pairs, List.take_add_one, List.getElem?_eq_getElem (by simpa using hk)]
    simp
  have el : ((pairs ws).take k).length = k := by simp [pairs]; omega
  unfold safeTo
  rw [e, left_take, el, Nat.zero_add]
  by_cases hl : lost.getD k false = true
  · rw [if_pos hl, if_pos hl, List.append_nil]
  · rw [if_neg hl, if_neg hl, laid_snoc]
    congr 1
    by_cases hm : k + 1 = ws.length
    · rw [if_pos hm, if_pos hm, Wt.pair, List.take_take]
    · rw [if_neg hm, if_neg hm, Wt.pair]

theorem safeTo_length (lost : List Bool) (torn : Int) (ws : List Wt) (safe : List UInt8) (n k : Nat) (hs : safe.length = 32 * n) (hw : ∀ x ∈ ws, x.ok n) : (safeTo lost torn ws safe k).length = 32 * n :=
  laid_length n _ _ hs (left_ok n _ _ _ _ _ (fun y hy => pairs_ok hw y (List.mem_of_mem_take hy)))

theorem safeTo_all (lost : List Bool) (torn : Int) (ws : List Wt) (safe : List UInt8) : safeTo lost torn ws safe ws.length = laid safe (left lost torn ws.length 0 (pairs ws)) := by
  unfold safeTo
  rw [List.take_of_length_le (by simp [pairs])]

theorem box_cell0 {w : World} {g : Nat} {x : Wt} (h : w.heap[g]? = some (.cells (wcell x).toArray 106 (0, 0))) : w.cell? ⟨g, 0, none⟩ = some (.int .i64 x.blk) := by simpa [wcell] using cell_of_row w g 0 _ _ _ h
theorem box_cell1 {w : World} {g : Nat} {x : Wt} (h : w.heap[g]? = some (.cells (wcell x).toArray 106 (0, 0))) : w.cell? ⟨g, 1, none⟩ = some (.int .i64 x.size) := by simpa [wcell] using cell_of_row w g 1 _ _ _ h

theorem crash_src {w : World} {g s : Nat} {x : Wt} (h : w.heap[g]? = some (.cells (wcell x).toArray 106 (0, 0))) : ∀ j u, (bc (x.bytes.take s))[j]? = some u → w.cell? ((⟨g, 2, none⟩ : Addr).add j) = some u := by
  intro j u hu
  obtain ⟨hj, rfl⟩ := bc_get _ j u hu
  rw [List.length_take] at hj
  rw [Addr.add_lit, cell_of_row w g (2 + j) _ _ _ h, List.getElem?_toArray]
  have e : (wcell x)[2 + j]? = (bc x.bytes)[j]? := by
    rw [Nat.add_comm]
    rfl
  rw [e, bc_at x.bytes j (by omega)]
  congr 3
  rw [List.getD, List.getD, List.getElem?_take, if_pos (by omega)]

theorem crash_n {x : Wt} {s : Nat} (hx : x.bytes.length = 32) (_hs : s ≤ 32) : (bc (x.bytes.take s)).length = Nat.min s 32 := by
  rw [bc_length, List.length_take, hx]

theorem crash_pos {w : World} {B g s o : Nat} {x : Wt} (h : w.heap[g]? = some (.cells (wcell x).toArray 106 (0, 0))) :
    0 < (bc (x.bytes.take s)).length → (some (⟨B, o, none⟩ : Addr) = some ⟨B, o, none⟩ ∧ ∃ ad, some (⟨g, 2, none⟩ : Addr) = some ad ∧ ∀ j v, (bc (x.bytes.take s))[j]? = some v → w.cell? (ad.add j) = some v) :=
  fun _ => ⟨rfl, _, rfl, crash_src h⟩

theorem crash_fit {x : Wt} {s n : Nat} {safe : List UInt8} (h : x.blk < n) (hx : x.bytes.length = 32) (hl : safe.length = 32 * n) : x.blk * 32 + (bc (x.bytes.take s)).length ≤ (bc safe).length := by
  rw [bc_length, bc_length, List.length_take, hx, hl]
  omega

theorem crash_keep {w w' : World} {B p gn gs n g : Nat} {v : Value} {now safe : List UInt8} {ws : List Wt} {x : Wt} (D : Dv w B p gn gs v n now safe ws) (h : w.heap[g]? = some (.cells (wcell x).toArray 106 (0, 0))) (hk : Kept w w' [gs]) :
    w'.cell? ⟨p, 1, none⟩ = some (.slice (some ⟨gs, 0, none⟩) n n) ∧ w'.cell? ⟨g, 0, none⟩ = some (.int .i64 x.blk) :=
  ⟨hk.cell (p := ⟨p, 1, none⟩) (by simpa using ne_of_types D.hp D.hs (by decide)) D.cell1, hk.cell (p := ⟨g, 0, none⟩) (by simpa using ne_of_types h D.hs (by decide)) (box_cell0 h)⟩

set_option maxHeartbeats 2000000 in
set_option maxRecDepth 100000 in
theorem crash_any {w : World} {B p gn gs n : Nat} {v : Value} {now safe : List UInt8} {ws : List Wt} (h : Dv w B p gn gs v n now safe ws) (hws : ws.length ≤ 1000000) (vl : Value) (lost : List Bool) (hlo : RbB w B 4 vl lost) (torn : Int) :
    Calls Try.prog 23 #[.pointer (some ⟨p, 0, none⟩), vl, .int .i64 torn] w fun e w' => e = .returned (.tuple #[]) ∧
      Dv w' B p gn gs (.slice none 0 0) n (carry (safeTo lost torn ws safe ws.length) (ws.map Wt.blk) now) (safeTo lost torn ws safe ws.length) [] ∧ Fr B dts w w' := by
  obtain ⟨av, cw, rfl⟩ := ownsRow_shape h.hv
  obtain ⟨la, lc, rfl, _⟩ := id hlo
  have c2 := h.cell2
  have H := Lib.hid h; clear h
  have Hlo := Lib.hid hlo; clear hlo
  go_enter Try.func23, Try.ntmps23
  go_wp2
  go_loopw [23] (fun t wr => ∃ k : Nat, t = .int .i64 k ∧ k ≤ ws.length ∧ Dv wr B p gn gs (.slice av ws.length cw) n now (safeTo lost torn ws safe k) ws ∧ Fr B dts w wr) (fun t _ => ws.length - (intOf t).toNat)
  case atStart => exact ⟨0, rfl, Nat.zero_le _, by simpa [safeTo, left, laid] using H.out, Fr.refl _ _ _⟩
  case round =>
    obtain ⟨k, rfl, hk, hd, hf⟩ := hrel
    have D := Lib.hid hd; have F := Lib.hid hf
    clear hd hf c2
    by_cases hlt : k < ws.length
    · obtain ⟨gw, hav, hbw, hra⟩ := waits_at D.out.hv (fun x hx => (D.out.hw x hx).2.2) k hlt
      subst hav
      have Hst := Lib.hid (safeTo_step lost torn ws safe k hlt)
      obtain ⟨x, hx⟩ : ∃ x, x = ws[k] := ⟨_, rfl⟩
      have hxo : x.ok n := by rw [hx]; exact D.out.hw _ (List.getElem_mem _)
      rw [← hx] at hra
      have Hx := Lib.hid hx; have Hra := Lib.hid hra; have Hxo := Lib.hid hxo
      clear hx hra hxo
      have hLo := (Hlo.out.frame F.out (Nat.le_refl _) (by decide))
      by_cases hl : lost.getD k false = true
      · have hkl : k < lost.length := by
          rcases Nat.lt_or_ge k lost.length with h1 | h1
          · exact h1
          · rw [List.getD, List.getElem?_eq_none h1] at hl; simp at hl
        obtain ⟨la', lc', e1, hb⟩ := hLo
        simp only [Value.slice.injEq] at e1
        obtain ⟨rfl, _, rfl⟩ := e1
        obtain ⟨lb, lo, rfl, _, hcl⟩ := hb (by rintro rfl; simp at hkl)
        have Hcl := Lib.hid (hcl k hkl)
        rw [hl] at Hcl
        clear hcl hb
        go_wp2_with (first
          | (refine wpList_load_mid rfl 106 (.tmp 26) rfl gw (k * 34) rfl (wcell x) _ Hra.out Try.underlying106 rfl (by rw [wcell_length Hxo.out.2.2]; exact Try.size65) ?_)
          | (refine wpList_store_new wr rfl 106 (.tmp 8) (.tmp 27) rfl _ 106 (wcell x) rfl rfl (by rw [wcell_length Hxo.out.2.2]; exact Try.size65) (by rw [wcell_length Hxo.out.2.2]; rfl) (wcell_one x) ?_; intro w2 hbox hk2 hz2; have cl : w2.cell? ⟨lb, lo + k, none⟩ = some (.bool true) := hk2.out.cell (p := ⟨lb, lo + k, none⟩) (by simp) Hcl.out))
        have D2 := Lib.hid (D.out.frame (Fr.ofKept hk2.out 0 []) (by simp) (by simp) (by simp))
        have F2 := Lib.hid (F.out.trans (Fr.ofKept hk2.out B dts))
        go_roundw
        case rel => exact ⟨k + 1, by go_num, by omega, by rw [Hst.out, if_pos hl]; exact D2.out, F2.out⟩
        case measure => simp [intOf]; omega
      · have hlf : lost.getD k false = false := by simpa using hl
        clear hl
        obtain ⟨s, hs⟩ : ∃ s, s = if k + 1 = ws.length then min torn.toNat x.size else x.size := ⟨_, rfl⟩
        have hs32 : s ≤ 32 := by have := Hxo.out.2.1; rw [hs]; split <;> omega
        have hsi : (s : Int) ≤ 32 := by omega
        obtain ⟨mx, hmx⟩ : ∃ mx : Int, mx = if (0 : Int) > torn then 0 else torn := ⟨_, rfl⟩
        rw [hlf, ← Hx.out, ← hs] at Hst
        by_cases hkl : k < lost.length
        · obtain ⟨la', lc', e1, hb⟩ := hLo
          simp only [Value.slice.injEq] at e1
          obtain ⟨rfl, _, rfl⟩ := e1
          obtain ⟨lb, lo, rfl, _, hcl⟩ := hb (by rintro rfl; simp at hkl)
          have Hcl := Lib.hid (hcl k hkl)
          rw [hlf] at Hcl
          clear hcl hb
          by_cases hlast : k + 1 = ws.length
          · have hbl : ((k : Int) == (ws.length : Int) - 1) = true := by simp; omega
            have Hsm : RowKit.Hid ((s : Int) = if (x.size : Int) < mx then (x.size : Int) else mx) := Lib.hid (by rw [hs, if_pos hlast, hmx]; split <;> split <;> omega)
            have Hmx := Lib.hid hmx
            clear hs hmx hlast
            go_wp2_with (first
              | (refine wpList_load_mid rfl 106 (.tmp 26) rfl gw (k * 34) rfl (wcell x) _ Hra.out Try.underlying106 rfl (by rw [wcell_length Hxo.out.2.2]; exact Try.size65) ?_)
              | (refine wpList_store_new wr rfl 106 (.tmp 8) (.tmp 27) rfl _ 106 (wcell x) rfl rfl (by rw [wcell_length Hxo.out.2.2]; exact Try.size65) (by rw [wcell_length Hxo.out.2.2]; rfl) (wcell_one x) ?_; intro w2 hbox hk2 hz2; have b0 := box_cell0 hbox.out; have b1 := box_cell1 hbox.out; have cl : w2.cell? ⟨lb, lo + k, none⟩ = some (.bool false) := hk2.out.cell (p := ⟨lb, lo + k, none⟩) (by simp) Hcl.out)
              | (refine wpList_max rfl (.tmp 43) (.const (.int .i64 0)) _ rfl .i64 .i64 torn 0 rfl rfl mx Hmx.out ?_)
              | (refine wpList_min rfl (.tmp 44) (.tmp 46) _ rfl .i64 .i64 mx x.size rfl rfl s Hsm.out ?_))
            have D2 := Lib.hid (D.out.frame (Fr.ofKept hk2.out 0 []) (by simp) (by simp) (by simp))
            have hsz := Hxo.out.1
            have R2 := Lib.hid (And.intro D2.out.cell1 b0)
            have Hn := Lib.hid (crash_n Hxo.out.2.2 hs32); have Hpos := Lib.hid (crash_pos (B := gs) (o := x.blk * 32) (s := s) (w := w2.drew) hbox.out); have Hfit := Lib.hid (crash_fit (s := s) (safe := safeTo lost torn ws safe k) Hxo.out.1 Hxo.out.2.2 D.out.ls)
            go_region_held3 (fun W => W.cell? ⟨p, 1, none⟩ = some (.slice (some ⟨gs, 0, none⟩) n n) ∧ W.cell? ⟨wr.heap.size, 0, none⟩ = some (.int .i64 x.blk))
              (first | exact R2.out | exact R3.out)
              ((refine step_copy_fr w2.drew rfl (.tmp 55) (.tmp 58) 36 36 rfl 5 Try.underlying36 Try.size5 _ _ _ _ _ _ rfl rfl gs (x.blk * 32) _ 104 D2.out.drew.hs (bc (x.bytes.take s)) Hn.out Hpos.out Hfit.out (bc_one _) ?_; intro w3 hg3 hf3 hk3; have R3 := Lib.hid (crash_keep D2.out.drew hbox.out hk3)))
            have hg4 : w3.heap[gs]? = some (.cells (bc (lay (safeTo lost torn ws safe k) x.blk (x.bytes.take s))).toArray 104 (0, 0)) := by
              have := hg3.out
              rw [← bc_splice] at this
              rw [lay, Nat.mul_comm 32 x.blk]
              exact this
            have D3 := Lib.hid (D2.out.drew.setSafe hk3 hg4 (by rw [lay_length _ _ _ (by rw [D.out.ls, List.length_take, Hxo.out.2.2]; omega), D.out.ls]))
            have F3 := Lib.hid ((F.out.trans ((Fr.ofKept hk2.out B dts).drew)).trans (hf3.mono D.out.bs (by decide)))
            clear hg3 hf3 hk3 hg4
            go_wp2
            go_roundw
            case rel => exact ⟨k + 1, by go_num, by omega, by rw [Hst.out, if_neg (by decide)]; exact D3.out, F3.out⟩
            case measure => simp [intOf]; omega
          · have hbl : ((k : Int) == (ws.length : Int) - 1) = false := by simp; omega
            obtain rfl : s = x.size := by rw [hs, if_neg hlast]
            clear hs hmx hlast
            go_wp2_with (first
              | (refine wpList_load_mid rfl 106 (.tmp 26) rfl gw (k * 34) rfl (wcell x) _ Hra.out Try.underlying106 rfl (by rw [wcell_length Hxo.out.2.2]; exact Try.size65) ?_)
              | (refine wpList_store_new wr rfl 106 (.tmp 8) (.tmp 27) rfl _ 106 (wcell x) rfl rfl (by rw [wcell_length Hxo.out.2.2]; exact Try.size65) (by rw [wcell_length Hxo.out.2.2]; rfl) (wcell_one x) ?_; intro w2 hbox hk2 hz2; have b0 := box_cell0 hbox.out; have b1 := box_cell1 hbox.out; have cl : w2.cell? ⟨lb, lo + k, none⟩ = some (.bool false) := hk2.out.cell (p := ⟨lb, lo + k, none⟩) (by simp) Hcl.out))
            have D2 := Lib.hid (D.out.frame (Fr.ofKept hk2.out 0 []) (by simp) (by simp) (by simp))
            have hsz := Hxo.out.1
            have R2 := Lib.hid (And.intro D2.out.cell1 b0)
            have Hn := Lib.hid (crash_n Hxo.out.2.2 hs32); have Hpos := Lib.hid (crash_pos (B := gs) (o := x.blk * 32) (s := x.size) (w := w2.drew) hbox.out); have Hfit := Lib.hid (crash_fit (s := x.size) (safe := safeTo lost torn ws safe k) Hxo.out.1 Hxo.out.2.2 D.out.ls)
            go_region_held3 (fun W => W.cell? ⟨p, 1, none⟩ = some (.slice (some ⟨gs, 0, none⟩) n n) ∧ W.cell? ⟨wr.heap.size, 0, none⟩ = some (.int .i64 x.blk))
              (first | exact R2.out | exact R3.out)
              ((refine step_copy_fr w2.drew rfl (.tmp 55) (.tmp 58) 36 36 rfl 5 Try.underlying36 Try.size5 _ _ _ _ _ _ rfl rfl gs (x.blk * 32) _ 104 D2.out.drew.hs (bc (x.bytes.take x.size)) Hn.out Hpos.out Hfit.out (bc_one _) ?_; intro w3 hg3 hf3 hk3; have R3 := Lib.hid (crash_keep D2.out.drew hbox.out hk3)))
            have hg4 : w3.heap[gs]? = some (.cells (bc (lay (safeTo lost torn ws safe k) x.blk (x.bytes.take x.size))).toArray 104 (0, 0)) := by
              have := hg3.out
              rw [← bc_splice] at this
              rw [lay, Nat.mul_comm 32 x.blk]
              exact this
            have D3 := Lib.hid (D2.out.drew.setSafe hk3 hg4 (by rw [lay_length _ _ _ (by rw [D.out.ls, List.length_take, Hxo.out.2.2]; omega), D.out.ls]))
            have F3 := Lib.hid ((F.out.trans ((Fr.ofKept hk2.out B dts).drew)).trans (hf3.mono D.out.bs (by decide)))
            clear hg3 hf3 hk3 hg4
            go_wp2
            go_roundw
            case rel => exact ⟨k + 1, by go_num, by omega, by rw [Hst.out, if_neg (by decide)]; exact D3.out, F3.out⟩
            case measure => simp [intOf]; omega
        · have hkf : ¬ (k : Int) < (lost.length : Int) := by omega
          clear hLo
          by_cases hlast : k + 1 = ws.length
          · have hbl : ((k : Int) == (ws.length : Int) - 1) = true := by simp; omega
            have Hsm : RowKit.Hid ((s : Int) = if (x.size : Int) < mx then (x.size : Int) else mx) := Lib.hid (by rw [hs, if_pos hlast, hmx]; split <;> split <;> omega)
            have Hmx := Lib.hid hmx
            clear hs hmx hlast
            go_wp2_with (first
              | (refine wpList_load_mid rfl 106 (.tmp 26) rfl gw (k * 34) rfl (wcell x) _ Hra.out Try.underlying106 rfl (by rw [wcell_length Hxo.out.2.2]; exact Try.size65) ?_)
              | (refine wpList_store_new wr rfl 106 (.tmp 8) (.tmp 27) rfl _ 106 (wcell x) rfl rfl (by rw [wcell_length Hxo.out.2.2]; exact Try.size65) (by rw [wcell_length Hxo.out.2.2]; rfl) (wcell_one x) ?_; intro w2 hbox hk2 hz2; have b0 := box_cell0 hbox.out; have b1 := box_cell1 hbox.out)
              | (refine wpList_max rfl (.tmp 43) (.const (.int .i64 0)) _ rfl .i64 .i64 torn 0 rfl rfl mx Hmx.out ?_)
              | (refine wpList_min rfl (.tmp 44) (.tmp 46) _ rfl .i64 .i64 mx x.size rfl rfl s Hsm.out ?_))
            have D2 := Lib.hid (D.out.frame (Fr.ofKept hk2.out 0 []) (by simp) (by simp) (by simp))
            have hsz := Hxo.out.1
            have R2 := Lib.hid (And.intro D2.out.cell1 b0)
            have Hn := Lib.hid (crash_n Hxo.out.2.2 hs32); have Hpos := Lib.hid (crash_pos (B := gs) (o := x.blk * 32) (s := s) (w := w2.drew) hbox.out); have Hfit := Lib.hid (crash_fit (s := s) (safe := safeTo lost torn ws safe k) Hxo.out.1 Hxo.out.2.2 D.out.ls)
            go_region_held3 (fun W => W.cell? ⟨p, 1, none⟩ = some (.slice (some ⟨gs, 0, none⟩) n n) ∧ W.cell? ⟨wr.heap.size, 0, none⟩ = some (.int .i64 x.blk))
              (first | exact R2.out | exact R3.out)
              ((refine step_copy_fr w2.drew rfl (.tmp 55) (.tmp 58) 36 36 rfl 5 Try.underlying36 Try.size5 _ _ _ _ _ _ rfl rfl gs (x.blk * 32) _ 104 D2.out.drew.hs (bc (x.bytes.take s)) Hn.out Hpos.out Hfit.out (bc_one _) ?_; intro w3 hg3 hf3 hk3; have R3 := Lib.hid (crash_keep D2.out.drew hbox.out hk3)))
            have hg4 : w3.heap[gs]? = some (.cells (bc (lay (safeTo lost torn ws safe k) x.blk (x.bytes.take s))).toArray 104 (0, 0)) := by
              have := hg3.out
              rw [← bc_splice] at this
              rw [lay, Nat.mul_comm 32 x.blk]
              exact this
            have D3 := Lib.hid (D2.out.drew.setSafe hk3 hg4 (by rw [lay_length _ _ _ (by rw [D.out.ls, List.length_take, Hxo.out.2.2]; omega), D.out.ls]))
            have F3 := Lib.hid ((F.out.trans ((Fr.ofKept hk2.out B dts).drew)).trans (hf3.mono D.out.bs (by decide)))
            clear hg3 hf3 hk3 hg4
            go_wp2
            go_roundw
            case rel => exact ⟨k + 1, by go_num, by omega, by rw [Hst.out, if_neg (by decide)]; exact D3.out, F3.out⟩
            case measure => simp [intOf]; omega
          · have hbl : ((k : Int) == (ws.length : Int) - 1) = false := by simp; omega
            obtain rfl : s = x.size := by rw [hs, if_neg hlast]
            clear hs hmx hlast
            go_wp2_with (first
              | (refine wpList_load_mid rfl 106 (.tmp 26) rfl gw (k * 34) rfl (wcell x) _ Hra.out Try.underlying106 rfl (by rw [wcell_length Hxo.out.2.2]; exact Try.size65) ?_)
              | (refine wpList_store_new wr rfl 106 (.tmp 8) (.tmp 27) rfl _ 106 (wcell x) rfl rfl (by rw [wcell_length Hxo.out.2.2]; exact Try.size65) (by rw [wcell_length Hxo.out.2.2]; rfl) (wcell_one x) ?_; intro w2 hbox hk2 hz2; have b0 := box_cell0 hbox.out; have b1 := box_cell1 hbox.out))
            have D2 := Lib.hid (D.out.frame (Fr.ofKept hk2.out 0 []) (by simp) (by simp) (by simp))
            have hsz := Hxo.out.1
            have R2 := Lib.hid (And.intro D2.out.cell1 b0)
            have Hn := Lib.hid (crash_n Hxo.out.2.2 hs32); have Hpos := Lib.hid (crash_pos (B := gs) (o := x.blk * 32) (s := x.size) (w := w2.drew) hbox.out); have Hfit := Lib.hid (crash_fit (s := x.size) (safe := safeTo lost torn ws safe k) Hxo.out.1 Hxo.out.2.2 D.out.ls)
            go_region_held3 (fun W => W.cell? ⟨p, 1, none⟩ = some (.slice (some ⟨gs, 0, none⟩) n n) ∧ W.cell? ⟨wr.heap.size, 0, none⟩ = some (.int .i64 x.blk))
              (first | exact R2.out | exact R3.out)
              ((refine step_copy_fr w2.drew rfl (.tmp 55) (.tmp 58) 36 36 rfl 5 Try.underlying36 Try.size5 _ _ _ _ _ _ rfl rfl gs (x.blk * 32) _ 104 D2.out.drew.hs (bc (x.bytes.take x.size)) Hn.out Hpos.out Hfit.out (bc_one _) ?_; intro w3 hg3 hf3 hk3; have R3 := Lib.hid (crash_keep D2.out.drew hbox.out hk3)))
            have hg4 : w3.heap[gs]? = some (.cells (bc (lay (safeTo lost torn ws safe k) x.blk (x.bytes.take x.size))).toArray 104 (0, 0)) := by
              have := hg3.out
              rw [← bc_splice] at this
              rw [lay, Nat.mul_comm 32 x.blk]
              exact this
            have D3 := Lib.hid (D2.out.drew.setSafe hk3 hg4 (by rw [lay_length _ _ _ (by rw [D.out.ls, List.length_take, Hxo.out.2.2]; omega), D.out.ls]))
            have F3 := Lib.hid ((F.out.trans ((Fr.ofKept hk2.out B dts).drew)).trans (hf3.mono D.out.bs (by decide)))
            clear hg3 hf3 hk3 hg4
            go_wp2
            go_roundw
            case rel => exact ⟨k + 1, by go_num, by omega, by rw [Hst.out, if_neg (by decide)]; exact D3.out, F3.out⟩
            case measure => simp [intOf]; omega
    · have hke : k = ws.length := by omega
      subst hke
      have hge : ¬ (ws.length : Int) < (ws.length : Int) := by omega
      have D4 := D.out
      have F4 := F.out
      have D4 := Lib.hid D4; have F4 := Lib.hid F4
      clear hlt
      go_wp2_with fail
      refine (forget_any D4.out hws).mono ?_
      rintro e w5 ⟨rfl, d5, f5⟩
      have D5 := Lib.hid d5; have F5 := Lib.hid (F4.out.trans f5)
      clear d5 f5
      go_wp2
      go_end0
      exact ⟨rfl, D5.out, F5.out⟩

end Go.Proofs.Ytfhdblbiamdplaa
