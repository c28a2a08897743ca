/-
  slices.DeleteFunc on versions: its contract.
-/
import Derived.Test.YtdjhcdgehmpikaaRi
namespace Go.Proofs.Ytdjhcdgehmpikaa
open Go.RowKit

theorem Fo.one {O : Nat → Prop} {a b c : World} (h : Fo O a b) (k : Kept b c []) : Fo O a c := h.trans (Fo.ofKept k O)

set_option maxHeartbeats 1000000 in
set_option maxRecDepth 20000 in
theorem deleteFunc_any {w : World} {base g cap : Nat} {key : Int} (l : List Vr) (ho : w.ownsRow base 124 4 (.slice (some ⟨g, 0, none⟩) l.length cap) l.length (vcl key l)) (c : Nat) (lb : Array Value) (P : Vr → Bool) (ec : ∀ args w, (callFunc c args).run Try.prog w = .ok (.enter c args) w) (hc : PaysG w g key l c lb P) :
    Calls Try.prog 69 #[.slice (some ⟨g, 0, none⟩) l.length cap, .func (.func c) #[] lb] w fun e w' => e = .returned (.slice (some ⟨g, 0, none⟩) (l.filter fun r => !P r).length cap) ∧
      w'.ownsRow base 124 4 (.slice (some ⟨g, 0, none⟩) (l.filter fun r => !P r).length cap) (l.filter fun r => !P r).length (vcl key (l.filter fun r => !P r)) ∧ Fo (fun k => k = g) w w' := by
  have HC := Lib.hid hc
  have HO := Lib.hid ho
  have ci := indexFunc_any l _ ho c lb P ec (fun r hr V hV => hc r hr V (Fo.ofKept hV _))
  rcases ho.2 with ⟨h0, _⟩ | ⟨g', cap', cur, h0, hbg, hg, hnc, hcm, hcs, htk⟩
  · cases h0
  simp only [Value.slice.injEq, Option.some.injEq, Addr.mk.injEq] at h0
  obtain ⟨⟨rfl, _⟩, _, rfl⟩ := h0
  cases hi : l.findIdx? P with
  | none =>
    have e1 : idx P l = -1 := by rw [idx, hi]
    rw [e1] at ci
    have e2 : (l.filter fun r => !P r) = l := by
      rw [List.filter_eq_self]
      intro r hr
      rw [List.findIdx?_eq_none_iff] at hi
      simp [hi r hr]
    rw [e2]
    clear hc ho hbg hg hnc hcm hcs htk e1 hi e2
    go_enter Try.func69, Try.ntmps69
    go_wp2_with (go_at_call 83; refine ci.mono ?_; rintro e w' ⟨rfl, k2⟩)
    go_ret
    exact ⟨rfl, ownsRow_fr HO.out (Fr.ofKept k2 0 []) (by simp), Fo.ofKept k2 _⟩
  | some k0 =>
    have e1 : idx P l = k0 := by rw [idx, hi]
    have hlt := findIdx_lt hi
    rw [e1] at ci
    have hx1 : ((k0 : Int) == -1) = false := beq_eq_false_iff_ne.2 (by omega)
    have start : ∀ V, Kept w V [] → Mid V g cap key l P k0 (k0 + 1) := by
      intro V hV
      rw [List.findIdx?_eq_some_iff_getElem] at hi
      obtain ⟨h1, h2, h3⟩ := hi
      have hk : keptTo P l k0 = l.take k0 := by
        rw [keptTo, List.filter_eq_self]
        intro r hr
        obtain ⟨m, hm, e⟩ := List.mem_iff_getElem.1 hr
        rw [List.getElem_take] at e
        simp only [List.length_take] at hm
        have := h3 m (by omega)
        rw [e] at this
        simpa using this
      have hk1 : keptTo P l (k0 + 1) = l.take k0 := by rw [keptTo_miss (List.getElem?_eq_getElem h1) h2, hk]
      have cells := fun (m : Nat) (r : Vr) (hr : l[m]? = some r) (t : Nat) (ht : t < 4) => show cur[m * 4 + t]? = (vcs key r)[t]? by
        have hml : m < l.length := (List.getElem?_eq_some_iff.1 hr).1
        rw [← vcl_get key l m t r hr ht, ← htk, List.getElem?_take_of_lt (by omega)]
        simp
      refine ⟨⟨cur, hV.heap (by simp) hg, hcs, ?_, fun m r t _ hr ht => cells m r hr t ht⟩, by rw [hk1]; simp; omega, by omega, by omega⟩
      rw [hk1]
      have h5 : vcl key l = vcl key (l.take k0) ++ vcl key (l.drop k0) := by rw [← vcl_append, List.take_append_drop]
      have h6 : (vcl key (l.take k0)).length = k0 * 4 := by rw [vcl_length]; simp; omega
      have h7 : (cur.toList.take (l.length * 4)).take (k0 * 4) = cur.toList.take (k0 * 4) := by rw [List.take_take]; congr 1; omega
      rw [← h7, htk, h5, ← h6, List.take_left]
    have ST := Lib.hid start
    have HL : Hid (l.length ≤ cap ∧ cap ≤ maxLen ∧ base ≤ g) := Lib.hid ⟨hnc, hcm, hbg⟩
    have hlen : l.length ≤ 9223372036854775807 := by unfold maxLen at hcm; omega
    clear hc ho hbg hg hnc hcm hcs htk e1 hi start
    go_enter Try.func69, Try.ntmps69
    go_wp2_with (go_at_call 83; refine ci.mono ?_; rintro e w1 ⟨rfl, k1⟩)
    go_loopw [5, 6, 7] (fun s5 s6 _ wr => ∃ i j : Nat, s5 = .int .i64 i ∧ s6 = .int .i64 j ∧ Mid wr g cap key l P i j ∧ Fo (fun k => k = g) w wr) (fun _ s6 _ _ => l.length - (intOf s6).toNat)
    case atStart => exact ⟨k0, k0 + 1, rfl, by go_num, ST.out _ k1, Fo.ofKept k1 _⟩
    case round =>
      obtain ⟨i, j, rfl, rfl, m, fo⟩ := hrel
      have M := Lib.hid m; have FO := Lib.hid fo
      have hle := m.le
      have hij := m.lt
      clear m fo
      by_cases hj : j < l.length
      · obtain ⟨r, hr⟩ : ∃ r, l[j]? = some r := ⟨_, List.getElem?_eq_getElem hj⟩
        obtain ⟨c0, c1, c2, c3⟩ := M.out.cells hr
        have HR := Lib.hid hr
        have x1 : (j : Int) < (l.length : Int) := by omega
        have x2 : (i : Int) < (l.length : Int) := by omega
        have call := HC.out r (List.mem_of_getElem? hr)
        obtain ⟨q, hq⟩ : ∃ q, P r = q := ⟨_, rfl⟩
        rw [hq] at call
        have HQ := Lib.hid hq
        have CALL := Lib.hid call
        clear hr hq call
        obtain ⟨txt, rb, rd⟩ := r
        simp only at c0 c1 c2 c3 CALL
        go_wp2_with fail
        refine (CALL.out _ (FO.out.alloc _)).mono ?_
        rintro e w2 ⟨rfl, k2⟩
        have b2 := k2.heap (by simp) (heap_alloc_new wr (.cells #[.int .i64 key, .string txt, .int .i64 rb, .int .i64 rd] 124))
        have K2 := Lib.hid (((Kept.refl wr []).alloc (.cells #[.int .i64 key, .string txt, .int .i64 rb, .int .i64 rd] 124)).trans k2 (by simp))
        have y0 : w2.cell? ⟨wr.heap.size, 0, none⟩ = some (.int .i64 key) := by rw [cell_of_row w2 _ 0 _ _ _ b2]; rfl
        have y1 : w2.cell? ⟨wr.heap.size, 1, none⟩ = some (.string txt) := by rw [cell_of_row w2 _ 1 _ _ _ b2]; rfl
        have y2 : w2.cell? ⟨wr.heap.size, 2, none⟩ = some (.int .i64 rb) := by rw [cell_of_row w2 _ 2 _ _ _ b2]; rfl
        have y3 : w2.cell? ⟨wr.heap.size, 3, none⟩ = some (.int .i64 rd) := by rw [cell_of_row w2 _ 3 _ _ _ b2]; rfl
        obtain ⟨z0, z1, z2, z3, f0, f1, f2, f3⟩ := M.out.spot K2.out HL.out.1
        obtain ⟨u0, z0⟩ := z0
        obtain ⟨u1, z1⟩ := z1
        obtain ⟨u2, z2⟩ := z2
        obtain ⟨u3, z3⟩ := z3
        clear k2 b2 c0 c1 c2 c3
        cases q
        · go_wp2
          go_roundw
          case rel =>
            have m2 := Mid.keep (wr' := w2) M.out HR.out HQ.out K2.out HL.out.1
            have f2 := ((((FO.out.one K2.out).setCell (p := ⟨g, i * 4, none⟩) (.inl rfl) (.int .i64 key)).setCell (p := ⟨g, i * 4 + 1, none⟩) (.inl rfl) (.string txt)).setCell (p := ⟨g, i * 4 + 2, none⟩) (.inl rfl) (.int .i64 rb)).setCell (p := ⟨g, i * 4 + 3, none⟩) (.inl rfl) (.int .i64 rd)
            exact ⟨i + 1, j + 1, by go_num, by go_num, m2, f2⟩
          case measure => simp [intOf]; omega
        · go_wp2
          go_roundw
          case rel => exact ⟨i, j + 1, rfl, by go_num, M.out.skip HR.out HQ.out K2.out, FO.out.one K2.out⟩
          case measure => simp [intOf]; omega
      · obtain rfl : j = l.length := by omega
        have x1 : ¬ (l.length : Int) < (l.length : Int) := by omega
        have x2 : (i : Int) ≤ (l.length : Int) := by omega
        have x3 : (i : Int) ≤ (cap : Int) := by have := HL.out.1; omega
        have x4 : (l.length : Int) ≤ (cap : Int) := by have := HL.out.1; omega
        have x5 : i < cap := by have := HL.out.1; omega
        obtain ⟨vs, hcl⟩ := M.out.clear HL.out.1
        go_wp2
        go_ret
        obtain ⟨e1, e2⟩ := M.out.done HL.out.1 HL.out.2.1 HL.out.2.2 vs
        rw [← e1]
        exact ⟨rfl, e2, Fo.setCells (O := fun k => k = g) rfl vs (i * 4) _ _ FO.out⟩
end Go.Proofs.Ytdjhcdgehmpikaa
