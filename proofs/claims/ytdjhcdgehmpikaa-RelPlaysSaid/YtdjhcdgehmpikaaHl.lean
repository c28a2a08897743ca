/-
  allSeen: the versions that a view sees, by their keys; Scan.
-/
import Derived.Test.YtdjhcdgehmpikaaHk
namespace Go.Proofs.Ytdjhcdgehmpikaa
open Go.RowKit Go.Maps Go.Sort Go.Shelf

theorem seen_keep {w w' : World} {bx gk k : Nat} {x0 x1 x2 y0 y1 y2 y3 : Value} (hk : Kept w w' [])
    (h : ((w.cell? ⟨bx, 0, none⟩ = some x0 ∧ w.cell? ⟨bx, 1, none⟩ = some x1) ∧ w.cell? ⟨bx, 2, none⟩ = some x2) ∧ (w.cell? ⟨gk, k * 4, none⟩ = some y0 ∧ w.cell? ⟨gk, k * 4 + 1, none⟩ = some y1) ∧ w.cell? ⟨gk, k * 4 + 2, none⟩ = some y2 ∧ w.cell? ⟨gk, k * 4 + 3, none⟩ = some y3) :
    ((w'.cell? ⟨bx, 0, none⟩ = some x0 ∧ w'.cell? ⟨bx, 1, none⟩ = some x1) ∧ w'.cell? ⟨bx, 2, none⟩ = some x2) ∧ (w'.cell? ⟨gk, k * 4, none⟩ = some y0 ∧ w'.cell? ⟨gk, k * 4 + 1, none⟩ = some y1) ∧ w'.cell? ⟨gk, k * 4 + 2, none⟩ = some y2 ∧ w'.cell? ⟨gk, k * 4 + 3, none⟩ = some y3 := by
  obtain ⟨⟨⟨h0, h1⟩, h2⟩, ⟨h3, h4⟩, h5, h6⟩ := h
  exact ⟨⟨⟨hk.cell (p := ⟨bx, 0, none⟩) (by simp) h0, hk.cell (p := ⟨bx, 1, none⟩) (by simp) h1⟩, hk.cell (p := ⟨bx, 2, none⟩) (by simp) h2⟩, ⟨hk.cell (p := ⟨gk, k * 4, none⟩) (by simp) h3, hk.cell (p := ⟨gk, k * 4 + 1, none⟩) (by simp) h4⟩, hk.cell (p := ⟨gk, k * 4 + 2, none⟩) (by simp) h5, hk.cell (p := ⟨gk, k * 4 + 3, none⟩) (by simp) h6⟩

/-- The numbers, below i, of a key's versions that are seen. -/
def seenTo (P : Vr → Bool) (l : List Vr) (i : Nat) : List Nat := (List.range i).filter fun j => match l[j]? with
  | some r => P r
  | none => false

theorem seenTo_hit {P : Vr → Bool} {l : List Vr} {i : Nat} {r : Vr} (h : l[i]? = some r) (hp : P r = true) : seenTo P l (i + 1) = seenTo P l i ++ [i] := by
  simp [seenTo, List.range_succ, h, hp]
theorem seenTo_miss {P : Vr → Bool} {l : List Vr} {i : Nat} {r : Vr} (h : l[i]? = some r) (hp : P r = false) : seenTo P l (i + 1) = seenTo P l i := by
  simp [seenTo, List.range_succ, h, hp]
theorem mem_seenTo {P : Vr → Bool} {l : List Vr} {i j : Nat} (h : j ∈ seenTo P l i) : j < i ∧ ∃ r, l[j]? = some r ∧ P r = true := by
  simp only [seenTo, List.mem_filter, List.mem_range] at h
  refine ⟨h.1, ?_⟩
  have h2 := h.2
  cases hr : l[j]? with
  | none => rw [hr] at h2; simp at h2
  | some r => rw [hr] at h2; exact ⟨r, rfl, h2⟩
theorem seenTo_length (P : Vr → Bool) (l : List Vr) (i : Nat) : (seenTo P l i).length ≤ i := by
  have := List.length_filter_le (fun j => match l[j]? with | some r => P r | none => false) (List.range i)
  simpa [seenTo] using this

/-- All that are seen: keys and numbers. -/
def seenAll (P : Vr → Bool) (ks : List Int) (F : Int → List Vr) : List (Int × Nat) := ks.flatMap fun k => (seenTo P (F k) (F k).length).map fun i => (k, i)

theorem seenAll_take {P : Vr → Bool} {ks : List Int} {F : Int → List Vr} {m : Nat} {k : Int} (h : ks[m]? = some k) : seenAll P (ks.take (m + 1)) F = seenAll P (ks.take m) F ++ (seenTo P (F k) (F k).length).map fun i => (k, i) := by
  rw [List.take_add_one, h]
  simp [seenAll]

theorem mem_seenAll {P : Vr → Bool} {ks : List Int} {F : Int → List Vr} {k : Int} {i : Nat} (h : (k, i) ∈ seenAll P ks F) : k ∈ ks ∧ ∃ r, (F k)[i]? = some r ∧ P r = true := by
  simp only [seenAll, List.mem_flatMap, List.mem_map] at h
  obtain ⟨q, hq, j, hj, e⟩ := h
  simp only [Prod.mk.injEq] at e
  obtain ⟨rfl, rfl⟩ := e
  exact ⟨hq, (mem_seenTo hj).2⟩

theorem seenAll_length (P : Vr → Bool) (N : Nat) (F : Int → List Vr) (hF : ∀ k, (F k).length ≤ N) : ∀ ks : List Int, (seenAll P ks F).length ≤ ks.length * N
  | [] => by simp [seenAll]
  | k :: ks => by
    have ih := seenAll_length P N F hF ks
    have h1 := seenTo_length P (F k) (F k).length
    have h2 := hF k
    simp only [seenAll, List.flatMap_cons, List.length_append, List.length_map, List.length_cons] at ih ⊢
    rw [Nat.succ_mul]
    omega

/-- Pointers to them. -/
def ptrs (S : Int → Value) (l : List (Int × Nat)) : List Value := l.map fun q => pv (S q.1) (some q.2)

theorem ptrs_append (S : Int → Value) (l m : List (Int × Nat)) : ptrs S (l ++ m) = ptrs S l ++ ptrs S m := by simp [ptrs]

theorem Try.infoPtr : (Try.prog.info? 120).map (fun i => (i.zero, i.size, i.bytes)) = some (some (.pointer none), 1, 8) := by kernel_rfl

theorem hkeys_any (mb : Option Nat) (W : World) : Calls Try.prog 80 #[.map mb] W fun e w' => e = .returned (.func (.func 88) #[] #[.pointer (some ⟨W.heap.size, 0, none⟩)]) ∧ w' = W.alloc (.cells #[.map mb] 114) :=
  (callsIn_wide (n := 5)).1 (AnyZI.keys_in Try.keysH Fence.wide 5 trivial rfl mb W)

theorem hsorted_any {W : World} {b n c : Nat} {ks : List Int} {S : Int → Value} (h : Mpv W b n ks S) (hc : W.cell? ⟨c, 0, none⟩ = some (.map (some b))) (hs : ks.Pairwise (· < ·)) (hl : ks.length ≤ 1000000) :
    Calls Try.prog 52 #[.func (.func 88) #[] #[.pointer (some ⟨c, 0, none⟩)]] W fun e w' => ∃ v, e = .returned v ∧ w'.ownsRow W.heap.size 2 1 v ks.length (ks.map encZ) ∧ Kept W w' [] := by
  have hcl : c < W.heap.size := World.block_lt_of_cell? W _ hc
  have hseq : SeqGives Fence.wide 2 Try.prog 88 #[.pointer (some ⟨c, 0, none⟩)] encZ (fun ss => ss.Perm (intKeys (Tm ks S))) (Maps.size (Tm ks S)) W :=
    AnyZI.keys_gives (ρ := Try.keysH_ren) { Try.keysH with } Fence.wide _ trivial rfl (by omega) c b n (Tm ks S) _ hcl hc h
  have hmax : Maps.size (Tm ks S) ≤ maxLen := by rw [size_Tm]; simp only [maxLen]; omega
  have hbytes : Maps.size (Tm ks S) * 8 ≤ 140737488355328 := by rw [size_Tm]; omega
  have cS := AnyZI.sorted_in Try.sortedA Fence.wide 5 trivial trivial trivial trivial rfl (by omega) (sorts_any _) (enters_of Try.func71 (by kernel_rfl) rfl) 88 #[.pointer (some ⟨c, 0, none⟩)] trivial (enters_of Try.func88 (by kernel_rfl) rfl) _ _ hmax hbytes _ hseq
  refine ((callsIn_wide (n := 5)).1 cS).mono ?_
  rintro e w' ⟨v, ss, rfl, hp, hrow, _, hb⟩
  rw [intKeys_Tm] at hp
  have hlen : ss.length = ks.length := hp.length_eq
  rw [sort_sorted hp hs, hlen] at hrow
  exact ⟨v, rfl, hrow, Kept.ofBelow hb []⟩

variable {w : World} {B p h b mb : Nat} {v : Value} {S : Int → Value} {st : List Nat} {ks : List Int} {F : Int → List Vr}

theorem getD_of {α : Type} {l : List α} {i : Nat} {x d : α} (h : l[i]? = some x) : l.getD i d = x := by simp [List.getD, h]

set_option maxHeartbeats 4000000 in
set_option maxRecDepth 100000 in
theorem allSeen_any (a : Sx w B p h b mb v S st ks F) (mx own : Int) (sl : Value) (opl : List Int) (hsl : RdI w sl opl) (N : Nat) (hN : ks.length ≤ N ∧ (∀ k, (F k).length ≤ N) ∧ N ≤ 900) :
    Calls Try.prog 61 #[.pointer (some ⟨h, 0, none⟩), vw mx sl own] w fun e w' => ∃ v', e = .returned v' ∧ w'.ownsRow w.heap.size 120 1 v' (seenAll (sees st ⟨mx, opl, own⟩) ks F).length (ptrs S (seenAll (sees st ⟨mx, opl, own⟩) ks F)) ∧ Kept w w' [] := by
  have A := Lib.hid a; have HS := Lib.hid hsl
  obtain ⟨sa, sc, rfl, _⟩ := hsl
  obtain ⟨i0, hi0, hz0, hz1, hzb⟩ := info_parts Try.infoPtr
  have I := Lib.hid (And.intro hi0 (And.intro hz0 (And.intro hz1 hzb)))
  obtain ⟨P, hP⟩ : ∃ P, P = sees st ⟨mx, opl, own⟩ := ⟨_, rfl⟩
  have HNN := Lib.hid hN
  obtain ⟨W1, hW1⟩ : ∃ W1, W1 = w.alloc (.cells #[.int .i64 mx, .slice sa opl.length sc, .int .i64 own] 51) := ⟨_, rfl⟩
  have hk1 : Kept w W1 [] := by rw [hW1]; exact (Kept.refl w []).alloc _
  have hb1 : W1.heap[w.heap.size]? = some (.cells #[.int .i64 mx, .slice sa opl.length sc, .int .i64 own] 51 (0, 0)) := by rw [hW1]; exact heap_alloc_new w _
  obtain ⟨bx, hbx⟩ : ∃ bx, bx = w.heap.size := ⟨_, rfl⟩
  rw [← hbx] at hb1
  have HB1 := Lib.hid hb1; have K1 := Lib.hid hk1
  have A1 := Lib.hid (A.out.keep hk1)
  have cse := Lib.hid (fun V k r (hr : VrOk r) (hV : Kept W1 V []) => sees_heap (A1.out.keep hV) mx own (.slice sa opl.length sc) opl ((HS.out.keep hk1).keep hV) k r hr)
  rw [← hP] at cse ⊢
  unfold vw vcs at cse
  have c1 : (w.alloc (.cells #[.int .i64 mx, .slice sa opl.length sc, .int .i64 own] 51)).cell? ⟨h, 1, none⟩ = some (.map (some mb)) := by rw [← hW1]; exact A1.out.hp.cell.2
  obtain ⟨n, hn⟩ : ∃ n, ks.length = n := ⟨_, rfl⟩
  have HN := Lib.hid hn
  have hn9 : n ≤ 900 := by omega
  have hsr := Lib.hid (fun V c (hV : Kept W1 V []) (hc : V.cell? ⟨c, 0, none⟩ = some (.map (some mb))) => hsorted_any (A1.out.keep hV).hp.hm hc A.out.hp.srt (by omega))
  rw [hn] at hsr
  have hlk := Lib.hid (fun V x (hx : (Lit.int .i64 x).wf = true) (hV : Kept W1 V []) => look_slice (A1.out.keep hV).hp.hm A.out.hp.nk x hx)
  unfold vw
  clear a hi0 hz0 hz1 hzb hN hk1 hb1 hP hn
  go_enter Try.func61, Try.ntmps61
  go_wp2_with fail
  rw [← hW1, ← hbx]
  have HBXE := Lib.hid hbx
  clear hW1 hbx
  refine (hkeys_any _ W1).mono ?_
  rintro e w2 ⟨rfl, hw2⟩
  have k2 : Kept W1 w2 [] := by rw [hw2]; exact (Kept.refl W1 []).alloc _
  have c2 : w2.cell? ⟨W1.heap.size, 0, none⟩ = some (.map (some mb)) := by rw [hw2, cell_of_row _ _ 0 _ _ _ (heap_alloc_new W1 _)]; rfl
  have K2 := Lib.hid k2; have C2 := Lib.hid c2
  clear hw2 k2 c2 c1
  go_wp2_with fail
  refine (hsr.out w2 _ K2.out C2.out).mono ?_
  rintro e w3 ⟨sv, rfl, ho3, k3⟩
  have O3 := Lib.hid ho3; have K3 := Lib.hid (K2.out.trans k3 (by simp))
  obtain ⟨a3, c3, hs3⟩ := ownsRow_shape ho3
  have HBX : Hid (w.heap.size ≤ w3.heap.size) := Lib.hid (by have := K1.out.size; have := K3.out.size; have := HBXE.out; omega)
  clear ho3 k3
  subst hs3
  go_wp2
  go_loopw [5, 7, 8, 9, 17] (fun l _ _ _ t wr => ∃ k : Nat, t = .int .i64 k ∧ k ≤ n ∧ Kept w3 wr [] ∧ wr.ownsRow w3.heap.size 120 1 l (seenAll P (ks.take k) F).length (ptrs S (seenAll P (ks.take k) F))) (fun _ _ _ _ t _ => n - (intOf t).toNat)
  case atStart => exact ⟨0, rfl, Nat.zero_le _, Kept.refl w3 [], World.ownsRow_nil _ _ _ _⟩
  case round =>
    obtain ⟨m, rfl, hm, hkw, ho⟩ := hrel
    have K := Lib.hid (K3.out.trans hkw (by simp)); have O := Lib.hid ho
    have Kw := Lib.hid hkw
    obtain ⟨al, cl, hal⟩ := ownsRow_shape ho
    clear hkw ho
    subst hal
    by_cases hlt : m < n
    · obtain ⟨key, hkey⟩ : ∃ key, ks[m]? = some key := ⟨_, List.getElem?_eq_getElem (by have := HN.out; omega)⟩
      have HKEY := Lib.hid hkey
      obtain ⟨g3, rfl, _, _, _, hcell⟩ := row_head O3.out (by omega)
      have e1 : w3.cell? ⟨g3, m, none⟩ = some (.int .i64 key) := hcell m _ (by rw [List.getElem?_map, hkey]; rfl)
      have e2 := Kw.out.cell (p := ⟨g3, m, none⟩) (by simp) e1
      have hwk := A.out.hp.wf key (List.mem_of_getElem? hkey)
      have l1 := hlk.out wr key hwk K.out
      have d1 := (A1.out.keep K.out).hp.cell.2
      have x1 : (m : Int) < (n : Int) := by omega
      have TK := Lib.hid (seenAll_take (P := P) (F := F) hkey)
      obtain ⟨sk, hsk⟩ : ∃ sk, S key = sk := ⟨_, rfl⟩
      have ro := (A1.out.keep K3.out).hp.rows key
      obtain ⟨ak, ck, hak⟩ := ownsRow_shape ro
      obtain ⟨L, hL⟩ : ∃ L, F key = L := ⟨_, rfl⟩
      have HLL := Lib.hid hL
      rw [hL] at ro hak TK
      rw [hak] at l1 ro
      have RO := Lib.hid ro
      have hLN : L.length ≤ 900 := by rw [← hL]; have := HNN.out.2.1 key; have := HNN.out.2.2; omega
      have SK := Lib.hid hak
      have OKL := Lib.hid (show ∀ r ∈ L, VrOk r by rw [← hL]; exact A.out.hp.ok key)
      clear hkey hcell e1 hwk ro hak hsk hL
      go_wp2_with fail
      go_loopw [5, 9, 29] (fun l _ t wx => ∃ k : Nat, t = .int .i64 k ∧ k ≤ L.length ∧ Kept w3 wx [] ∧ wx.ownsRow w3.heap.size 120 1 l (seenAll P (ks.take m) F ++ (seenTo P L k).map fun i => (key, i)).length (ptrs S (seenAll P (ks.take m) F ++ (seenTo P L k).map fun i => (key, i)))) (fun _ _ t _ => L.length - (intOf t).toNat)
      case atStart => exact ⟨0, rfl, Nat.zero_le _, Kw.out, by simpa [seenTo] using O.out⟩
      case round =>
        obtain ⟨k, rfl, hk, hkx, hox⟩ := hrel
        have X := Lib.hid (K3.out.trans hkx (by simp)); have OX := Lib.hid hox; have KX := Lib.hid hkx
        obtain ⟨LA, hLA⟩ : ∃ LA, LA = seenAll P (ks.take m) F ++ (seenTo P L k).map fun i => (key, i) := ⟨_, rfl⟩
        have HLA := Lib.hid hLA
        rw [← hLA] at OX hox
        have la9 : LA.length ≤ 900 * 900 + 900 := by
          have b1 := seenAll_length P 900 F (fun k => by have := HNN.out.2.1 k; have := HNN.out.2.2; omega) (ks.take m)
          have b2 := seenTo_length P L k
          have b3 : (ks.take m).length ≤ 900 := by have := List.length_take_le m ks; omega
          have b4 := Nat.mul_le_mul_right 900 b3
          rw [hLA, List.length_append, List.length_map]
          omega
        obtain ⟨a6, c6, h6⟩ := ownsRow_shape hox
        have LA9 := Lib.hid la9
        clear hkx hox hLA la9
        subst h6
        by_cases hlt2 : k < L.length
        · obtain ⟨r, hr⟩ : ∃ r, L[k]? = some r := ⟨_, List.getElem?_eq_getElem hlt2⟩
          obtain ⟨gk, hgk⟩ : ∃ gk, ak = some ⟨gk, 0, none⟩ := by
            rcases RO.out.2 with ⟨_, h0⟩ | ⟨gk, capk, curk, hv, _⟩
            · omega
            · simp only [Value.slice.injEq] at hv
              exact ⟨gk, hv.1⟩
          subst hgk
          obtain ⟨y0, y1, y2, y3⟩ := row_cells (ownsRow_fr RO.out (Fr.ofKept KX.out 0 []) (by simp)) hr
          obtain ⟨z0, z1, z2⟩ := three_at (X.out.heap (by simp) HB1.out)
          have x2 : (k : Int) < (L.length : Int) := by omega
          have hrok := OKL.out r (List.mem_of_getElem? hr)
          have CS := Lib.hid (fun V (hV : Kept W1 V []) => cse.out V key r hrok hV)
          obtain ⟨q, hq⟩ : ∃ q, P r = q := ⟨_, rfl⟩
          rw [hq] at CS
          have st2 : LA = seenAll P (ks.take m) F ++ (seenTo P L k).map (fun i => (key, i)) := HLA.out
          have NX : Hid ((if q then LA ++ [(key, k)] else LA) = seenAll P (ks.take m) F ++ (seenTo P L (k + 1)).map fun i => (key, i)) := Lib.hid (by
            cases q
            · rw [seenTo_miss hr hq, if_neg (by decide)]; exact st2
            · rw [seenTo_hit hr hq, if_pos rfl, List.map_append, ← List.append_assoc, ← st2]; rfl)
          have PK : Hid (pv (S key) (some k) = .pointer (some ⟨gk, k * 4, none⟩)) := Lib.hid (by rw [SK.out]; rfl)
          obtain ⟨rt, rb, rd⟩ := r
          simp only at y0 y1 y2 y3 CS
          have yy : ((wr.drew.cell? ⟨bx, 0, none⟩ = some (.int .i64 mx) ∧ wr.drew.cell? ⟨bx, 1, none⟩ = some (.slice sa opl.length sc)) ∧ wr.drew.cell? ⟨bx, 2, none⟩ = some (.int .i64 own)) ∧ (wr.drew.cell? ⟨gk, k * 4, none⟩ = some (.int .i64 key) ∧ wr.drew.cell? ⟨gk, k * 4 + 1, none⟩ = some (.string rt)) ∧ wr.drew.cell? ⟨gk, k * 4 + 2, none⟩ = some (.int .i64 rb) ∧ wr.drew.cell? ⟨gk, k * 4 + 3, none⟩ = some (.int .i64 rd) := ⟨⟨⟨z0, z1⟩, z2⟩, ⟨y0, y1⟩, y2, y3⟩
          have YY := Lib.hid yy
          have k8 : Kept wr wr.drew [] := (Kept.refl wr []).drew
          clear hr hrok hq st2 z0 z1 z2 y0 y1 y2 y3
          go_wp2_with fail
          go_region_held3 (fun V => ((V.cell? ⟨bx, 0, none⟩ = some (.int .i64 mx) ∧ V.cell? ⟨bx, 1, none⟩ = some (.slice sa opl.length sc)) ∧ V.cell? ⟨bx, 2, none⟩ = some (.int .i64 own)) ∧ (V.cell? ⟨gk, k * 4, none⟩ = some (.int .i64 key) ∧ V.cell? ⟨gk, k * 4 + 1, none⟩ = some (.string rt)) ∧ V.cell? ⟨gk, k * 4 + 2, none⟩ = some (.int .i64 rb) ∧ V.cell? ⟨gk, k * 4 + 3, none⟩ = some (.int .i64 rd)) (exact yy)
            (first
              | (go_at_call 79; refine (CS.out _ ?_).mono ?_; exact X.out.trans k8 (by simp); rintro e w8 ⟨rfl, k9⟩; have yy := seen_keep k9 YY.out; have k8 := k8.trans k9 (by simp)))
          have Y8 := Lib.hid (KX.out.trans k8 (by simp))
          have O8 := Lib.hid (ownsRow_fr OX.out (Fr.ofKept k8 0 []) (by simp))
          clear yy k8 k9
          cases q
          · rw [if_neg (by decide)] at NX
            go_wp2
            go_roundw
            case rel =>
              refine ⟨k + 1, by go_num, by omega, Y8.out, ?_⟩
              rw [← NX.out]
              exact O8.out
            case measure => simp [intOf]; omega
          · rw [if_pos rfl] at NX
            have hb8 : w3.heap.size ≤ w8.heap.size := Y8.out.size
            go_wp2_with (at_builtin; refine wpList_append_all _ rfl (.tmp 39) (.tmp 43) 125 125 rfl w3.heap.size 120 i0 _ 1 8 Try.underlying125 I.out.1 I.out.2.1 I.out.2.2.1 I.out.2.2.2 rfl (.slice a6 LA.length c6) LA.length (ptrs S LA) rfl ?hown _ 1 [.pointer (some ⟨gk, k * 4, none⟩)] rfl (src_one Try.underlying125 w8 _ rfl _) ?b1 ?b2 ?base ?next)
            case hown => exact ownsRow_fr O8.out ((Fr.refl 0 [] w8).alloc _) (by simp)
            case b1 => have := LA9.out; unfold maxLen; omega
            case b2 => have := LA9.out; omega
            case base => simp; omega
            case next =>
              intro v5 w5 ho5 _ hg5 _
              obtain ⟨a5, c5, hs5⟩ := ownsRow_shape ho5
              have e1 : ptrs S LA ++ [.pointer (some ⟨gk, k * 4, none⟩)] = ptrs S (LA ++ [(key, k)]) := by rw [ptrs_append, ← PK.out]; rfl
              have e2 : LA.length + 1 = (LA ++ [(key, k)]).length := by simp
              have K5 := Lib.hid ((Y8.out.alloc (.cells #[.pointer (some ⟨gk, k * 4, none⟩)] 120)).grown hg5 (fun j hj => .inr ((World.ownsRow.lt OX.out j hj).1)))
              rw [e1] at ho5
              have O5 := Lib.hid ho5
              clear ho5 hg5 e1
              subst hs5
              go_wp2
              go_roundw
              case rel =>
                refine ⟨k + 1, by go_num, by omega, K5.out, ?_⟩
                rw [← NX.out]
                have := O5.out
                rw [e2] at this ⊢
                exact this
              case measure => simp [intOf]; omega
        · have x2 : ¬ (k : Int) < (L.length : Int) := by omega
          have hkL : k = L.length := by omega
          have E9 : Hid (LA = seenAll P (ks.take (m + 1)) F) := Lib.hid (by rw [HLA.out, TK.out, hkL])
          clear hkL
          go_wp2
          go_roundw
          case rel =>
            refine ⟨m + 1, by go_num, by omega, KX.out, ?_⟩
            rw [← E9.out]
            exact OX.out
          case measure => simp [intOf]; omega
    · have x1 : ¬ (m : Int) < (n : Int) := by omega
      have R1 := Lib.hid (show ks.take m = ks by have := HN.out; exact List.take_of_length_le (by omega))
      go_wp2
      go_ret
      refine ⟨.slice al (seenAll P (ks.take m) F).length cl, rfl, ?_, K1.out.trans K.out (by simp)⟩
      have := ownsRow_low O.out HBX.out
      rw [R1.out] at this ⊢
      exact this

/-- Scan: the rows of all that are seen. -/
def scanR (P : Vr → Bool) (ks : List Int) (F : Int → List Vr) : List (Int × ByteArray) := (seenAll P ks F).map fun q => (q.1, match (F q.1)[q.2]? with
  | some r => r.txt
  | none => ByteArray.empty)

/-- Blocks and offsets of pointers. -/
def spots (S : Int → Value) (l : List (Int × Nat)) : List (Nat × Nat) := l.map fun q => ((S q.1).ownBlock.getD 0, q.2 * 4)

theorem ptrs_spots (a : Sx w B p h b mb v S st ks F) (l : List (Int × Nat)) (hl : ∀ q ∈ l, ∃ r, (F q.1)[q.2]? = some r) : ptrs S l = (spots S l).map fun q => .pointer (some ⟨q.1, q.2, none⟩) := by
  rw [ptrs, spots, List.map_map]
  apply List.map_congr_left
  rintro ⟨k, i⟩ hq
  obtain ⟨r, hr⟩ := hl _ hq
  obtain ⟨g, cap, cur, hs, _⟩ := a.row (List.getElem?_eq_some_iff.1 hr).1
  simp only at hs ⊢
  simp [hs, pv, Value.ownBlock]

theorem spot_cells (a : Sx w B p h b mb v S st ks F) {k : Int} {i : Nat} {r : Vr} (hr : (F k)[i]? = some r) :
    w.cell? ⟨(S k).ownBlock.getD 0, i * 4, none⟩ = some (.int .i64 k) ∧ w.cell? ⟨(S k).ownBlock.getD 0, i * 4 + 1, none⟩ = some (.string r.txt) ∧ w.cell? ⟨(S k).ownBlock.getD 0, i * 4 + 2, none⟩ = some (.int .i64 r.birth) ∧ w.cell? ⟨(S k).ownBlock.getD 0, i * 4 + 3, none⟩ = some (.int .i64 r.death) := by
  obtain ⟨g, cap, cur, hs, _⟩ := a.row (List.getElem?_eq_some_iff.1 hr).1
  have ro := a.hp.rows k
  rw [hs] at ro ⊢
  exact row_cells ro hr

/-- rows, of what allSeen has found. -/
theorem rowsOf_any {base : Nat} (a : Sx w B p h b mb v S st ks F) (P : Vr → Bool) (sv : Value) (ho : w.ownsRow base 120 1 sv (seenAll P ks F).length (ptrs S (seenAll P ks F))) (hlen : (seenAll P ks F).length ≤ 1000000) :
    Calls Try.prog 62 #[sv] w fun e w' => ∃ v', e = .returned v' ∧ w'.ownsRow w.heap.size 55 2 v' (scanR P ks F).length (rcl (scanR P ks F)) ∧ Kept w w' [] := by
  have e1 : (spots S (seenAll P ks F)).length = (seenAll P ks F).length := by simp [spots]
  rw [ptrs_spots a _ (fun q hq => by obtain ⟨k, i⟩ := q; obtain ⟨r, hr, _⟩ := (mem_seenAll hq).2; exact ⟨r, hr⟩), ← e1] at ho
  refine rows_any sv _ (scanR P ks F) (by simp [spots, scanR]) ho ?_ (by omega)
  intro i q r hq hr
  simp only [spots, scanR, List.getElem?_map, Option.map_eq_some_iff] at hq hr
  obtain ⟨⟨k, j⟩, h1, rfl⟩ := hq
  obtain ⟨_, h2, rfl⟩ := hr
  rw [h1] at h2
  cases h2
  obtain ⟨r, hr, _⟩ := (mem_seenAll (List.mem_of_getElem? h1)).2
  obtain ⟨c0, c1, _, _⟩ := spot_cells a hr
  simp only [hr]
  exact ⟨c0, c1⟩

set_option maxHeartbeats 1000000 in
theorem scan_any (a : Sx w B p h b mb v S st ks F) (mx own : Int) (sl : Value) (opl : List Int) (hsl : RdI w sl opl) (N : Nat) (hN : ks.length ≤ N ∧ (∀ k, (F k).length ≤ N) ∧ N ≤ 900) :
    Calls Try.prog 43 #[.pointer (some ⟨h, 0, none⟩), vw mx sl own] w fun e w' => ∃ v', e = .returned v' ∧ w'.ownsRow w.heap.size 55 2 v' (scanR (sees st ⟨mx, opl, own⟩) ks F).length (rcl (scanR (sees st ⟨mx, opl, own⟩) ks F)) ∧ Kept w w' [] := by
  have A := Lib.hid a; have HS := Lib.hid hsl; have HNN := Lib.hid hN
  obtain ⟨sa, sc, rfl, _⟩ := hsl
  obtain ⟨P, hP⟩ : ∃ P, P = sees st ⟨mx, opl, own⟩ := ⟨_, rfl⟩
  have hlen : (seenAll P ks F).length ≤ 1000000 := by
    have b1 := seenAll_length P 900 F (fun k => by have := hN.2.1 k; have := hN.2.2; omega) ks
    have b4 := Nat.mul_le_mul_right 900 (show ks.length ≤ 900 by omega)
    omega
  have K1 := Lib.hid ((Kept.refl w []).alloc (.cells #[.int .i64 mx, .slice sa opl.length sc, .int .i64 own] 51))
  have hb1 := heap_alloc_new w (.cells #[.int .i64 mx, .slice sa opl.length sc, .int .i64 own] 51)
  have cm := missing_any (A.out.keep K1.out)
  have ca := Lib.hid (allSeen_any (A.out.keep K1.out) mx own _ opl (HS.out.keep K1.out) N hN)
  rw [← hP] at ca ⊢
  unfold vw at ca ⊢
  obtain ⟨z0, z1, z2⟩ := three_at hb1
  have HLN := Lib.hid hlen
  clear a hN hlen hP hb1
  go_enter Try.func43, Try.ntmps43
  go_wp2_with fail
  refine cm.mono ?_
  rintro e w2 ⟨rfl, rfl⟩
  go_wp2_with fail
  refine ca.out.mono ?_
  rintro e w3 ⟨sv, rfl, ho, k3⟩
  have K3 := Lib.hid (K1.out.trans k3 (by simp))
  have cr := Lib.hid (rowsOf_any (A.out.keep K3.out) P sv ho HLN.out)
  clear ho k3 z0 z1 z2
  go_wp2_with fail
  refine cr.out.mono ?_
  rintro e w4 ⟨v4, rfl, ho4, k4⟩
  have O4 := Lib.hid ho4; have K4 := Lib.hid (K3.out.trans k4 (by simp))
  clear ho4 k4
  go_wp2
  go_ret
  exact ⟨v4, rfl, ownsRow_low O4.out K3.out.size, K4.out⟩

end Go.Proofs.Ytdjhcdgehmpikaa
