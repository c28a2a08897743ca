/-
  Soh, SnA, SnB in one text.
-/
import Derived.Test.YticiofkiffgclaaGreatQo11
import Derived.Test.YticiofkiffgclaaGreatRows
import Derived.Test.YticiofkiffgclaaGreatQo0
import Derived.Deep.QuietTactic
import Derived.BigQuiet
import Derived.Laws.BitsAllLaws
namespace Go.Proofs.YticiofkiffgclaaGreat
open Go.Shelf Go.RowKit Go.Lib Go.Sort

section
variable {β : Type} {c : β → β → Bool}

def Full (c : β → β → Bool) (bs : Nat) (l : List β) : Prop := ∃ ps : List (List β), l = ps.flatten ∧ ∀ p ∈ ps, p.length = bs ∧ Srt c p
def Runs (c : β → β → Bool) (bs : Nat) (l : List β) : Prop := ∃ (ps : List (List β)) (t : List β), l = ps.flatten ++ t ∧ (∀ p ∈ ps, p.length = bs ∧ Srt c p) ∧ t.length < bs ∧ Srt c t

theorem Full.nil (c : β → β → Bool) (bs : Nat) : Full c bs [] := ⟨[], rfl, by simp⟩
theorem Full.snoc {bs : Nat} {l X : List β} (h : Full c bs l) (hx : X.length = bs) (hs : Srt c X) : Full c bs (l ++ X) := by
  obtain ⟨ps, rfl, hp⟩ := h
  refine ⟨ps ++ [X], by simp, fun p hp' => ?_⟩
  rcases List.mem_append.1 hp' with h | h
  · exact hp p h
  · simp only [List.mem_singleton] at h
    subst h; exact ⟨hx, hs⟩
theorem Full.runs {bs : Nat} {l t : List β} (h : Full c bs l) (ht : t.length < bs) (hs : Srt c t) : Runs c bs (l ++ t) := by
  obtain ⟨ps, rfl, hp⟩ := h
  exact ⟨ps, t, rfl, hp, ht, hs⟩
theorem Runs.two {bs : Nat} {l : List β} (h : Runs c bs l) (h2 : 2 * bs ≤ l.length) : ∃ X Y R, l = X ++ Y ++ R ∧ X.length = bs ∧ Y.length = bs ∧ Srt c X ∧ Srt c Y ∧ Runs c bs R := by
  obtain ⟨ps, t, rfl, hp, ht, hs⟩ := h
  match ps, hp, h2 with
  | [], _, h2 => simp at h2; omega
  | [X], hp, h2 =>
    have := (hp X (by simp)).1
    simp at h2; omega
  | X :: Y :: ps, hp, _ => exact ⟨X, Y, ps.flatten ++ t, by simp, (hp X (by simp)).1, (hp Y (by simp)).1, (hp X (by simp)).2, (hp Y (by simp)).2, ps, t, rfl, fun p h => hp p (by simp [h]), ht, hs⟩
theorem Runs.one {bs : Nat} {l : List β} (h : Runs c bs l) (h1 : bs < l.length) (h2 : l.length < 2 * bs) : ∃ X t, l = X ++ t ∧ X.length = bs ∧ 0 < t.length ∧ Srt c X ∧ Srt c t := by
  obtain ⟨ps, t, rfl, hp, ht, hs⟩ := h
  match ps, hp, h1, h2 with
  | [], _, h1, _ => simp at h1; omega
  | [X], hp, h1, _ =>
    have := (hp X (by simp)).1
    exact ⟨X, t, by simp, this, by simp at h1; omega, (hp X (by simp)).2, hs⟩
  | X :: Y :: ps, hp, _, h2 =>
    have e1 := (hp X (by simp)).1
    have e2 := (hp Y (by simp)).1
    simp at h2; omega
theorem Runs.small {bs : Nat} {l : List β} (h : Runs c bs l) (h1 : l.length ≤ bs) : Srt c l := by
  obtain ⟨ps, t, rfl, hp, ht, hs⟩ := h
  match ps, hp, h1 with
  | [], _, _ => simpa using hs
  | [X], hp, h1 =>
    have := (hp X (by simp)).1
    have : t = [] := List.eq_nil_of_length_eq_zero (by simp at h1; omega)
    subst this
    simpa using (hp X (by simp)).2
  | X :: Y :: ps, hp, h1 =>
    have e1 := (hp X (by simp)).1
    have e2 := (hp Y (by simp)).1
    simp at h1; omega

theorem Stab.mid {l A M B : List β} (T : Tot c) (h : Stab c l (A ++ M ++ B)) : Stab c l (A ++ srt c M ++ B) :=
  h.trans (((Stab.refl c A).append (srt_stab T M)).append (Stab.refl c B))
end

variable {P : Program} {α : Type} [Inhabited α] {k : Nat} {enc : α → List Value} {w0 : World} {blk off : Nat} {d0 : Array α}

def InsAt (P : Program) (enc : α → List Value) (k : Nat) (w0 : World) (blk off : Nat) (d0 : Array α) (c : α → α → Bool) (g : Nat) (cb : Array Value) (cap : Nat) : Prop :=
  ∀ (A M B : List α) (d : Array α) (w : World), d.toList = A ++ M ++ B → d.size = d0.size → SWK enc k w0 blk off d w → d.size < 4611686018427387904 →
    ∀ sz a b : Nat, sz = d.size → a = A.length → b = a + M.length →
    Calls P 185 #[.slice (some ⟨blk, off, none⟩) sz cap, .int .i64 a, .int .i64 b, .func (.func g) #[] cb] w fun e w' => e = .returned (.tuple #[]) ∧ ∃ d' : Array α, d'.toList = A ++ srt c M ++ B ∧ SWK enc k w0 blk off d' w'

set_option maxHeartbeats 4000000 in
set_option maxRecDepth 1000000 in
theorem stable_any (L : SL P k) (R : RowK enc k w0 blk off d0) {c : α → α → Bool} (T : Tot c) {cf : α → α → Int} (hcf : ∀ x y, cf x y < 0 ↔ c y x = false) (g : Nat) (cb : Array Value) (eg : ∀ args w, (callFunc g args).run P w = .ok (.enter g args) w) (hcmp : CmpLays P g cb enc k cf blk off d0.size w0)
    (cap : Nat) (hins : InsAt P enc k w0 blk off d0 c g cb cap) (d : Array α) (w : World) (hs : d.size = d0.size) (S : SWK enc k w0 blk off d w) (hsz : d.size < 1152921504606846976) (n : Nat) (hn : n = d.size) :
    Calls P 145 #[.slice (some ⟨blk, off, none⟩) n cap, .int .i64 n, .func (.func g) #[] cb] w fun e w' => e = .returned (.tuple #[]) ∧ ∃ d' : Array α, d'.toList = srt c d.toList ∧ SWK enc k w0 blk off d' w' := by
  have mixed := L.mixed; have t0 := L.t0; have a0 := L.a0; have z0 := L.z0; have v0 := L.v0; have t3 := L.t3; have a3 := L.a3; have z3 := L.z3; have v3 := L.v3; have t4 := L.t4; have a4 := L.a4; have z4 := L.z4; have v4 := L.v4; have t6 := L.t6; have a6 := L.a6; have z6 := L.z6; have v6 := L.v6; have t7 := L.t7; have a7 := L.a7; have z7 := L.z7; have v7 := L.v7
  have eI := L.eI
  have es : ∀ args w, (callFunc 186 args).run P w = .ok (.enter 186 args) w := enters_of L.fm (by kernel_rfl) rfl
  have HSYM := Lib.hid (sym_any L R T hcf g cb eg hcmp cap)
  have HINS := Lib.hid hins
  have S0 : Aside (SWK enc k w0 blk off d w) := S
  have HT : Hid (Tot c) := Lib.hid T
  have HS : Hid (d.size = d0.size ∧ n = d.size ∧ d.toList.length = n) := Lib.hid ⟨hs, hn, by simp [hn]⟩
  have hnz : n < 1152921504606846976 := by omega
  clear S hcmp hins hs hn hsz hcf
  have len : ∀ d' : Array α, Stab c d.toList d'.toList → d'.toList.length = d.toList.length → d'.size = d0.size ∧ n = d'.size := fun d' _ h => by
    have := size_of_list h
    have := HS.out
    omega
  have LEN := Lib.hid len
  clear len
  go_enter L.fs, Tryz.ntmps145
  go_wp2
  go_loopg [7, 8] n (fun kx s7 s8 wr => ∃ (a b : Nat) (dk : Array α), s7 = .int .i64 a ∧ s8 = .int .i64 b ∧ b ≤ a + 20 ∧ a + 20 ≤ b ∧ a ≤ n ∧ n - a ≤ kx ∧ Aside (SWK enc k w0 blk off dk wr) ∧ Hid (∃ A B, dk.toList = A ++ B ∧ a = A.length ∧ Full c 20 A ∧ Stab c d.toList dk.toList ∧ dk.toList.length = d.toList.length))
  case atStart => exact ⟨0, 20, d, rfl, rfl, by omega, by omega, by omega, by omega, S0, Lib.hid ⟨[], d.toList, rfl, rfl, Full.nil c 20, Stab.refl c _, rfl⟩⟩
  case round =>
    clear S0
    obtain ⟨a, b, dk, rfl, rfl, hb1, hb2, ha, hkx, S1, HL⟩ := hrel
    by_cases hlt : b ≤ n
    · have x1 : (b : Int) ≤ (n : Int) := by omega
      obtain ⟨A, B, e1, e2, hF, hSt, hl⟩ := HL.out
      obtain ⟨hz1, hz2⟩ := LEN.out dk hSt hl
      obtain ⟨M, B2, eB, lM, lB⟩ := list_cut B 20 (by have := congrArg List.length e1; simp at this; omega)
      have q : dk.toList = A ++ M ++ B2 := by rw [e1, eB]; simp
      have hc := HINS.out A M B2 dk wr q hz1 S1.out (by omega) n a b hz2 e2 (by omega)
      have HE : Hid (∀ d' : Array α, d'.toList = A ++ srt c M ++ B2 → ∃ A B, d'.toList = A ++ B ∧ b = A.length ∧ Full c 20 A ∧ Stab c d.toList d'.toList ∧ d'.toList.length = d.toList.length) := Lib.hid (fun d' h => by
        refine ⟨A ++ srt c M, B2, h, by simp [srt_length]; omega, hF.snoc (by rw [srt_length]; exact lM) (srt_sorted HT.out M), ?_, ?_⟩
        · rw [h]; rw [q] at hSt; exact hSt.mid HT.out
        · rw [h, ← hl, q]; simp [srt_length])
      have HC := Lib.hid hc
      clear hc HL e1 e2 hF hSt hl hz1 hz2 eB lM lB q S1
      go_wp2_with (go_at_fn 185; refine HC.out.mono ?_; rintro e w' ⟨rfl, d', hd', S'⟩)
      have HG := Lib.hid (HE.out d' hd')
      have SA : Aside (SWK enc k w0 blk off d' w') := S'
      clear hd' S' HE HC
      go_wp2
      go_roundg (n - b)
      case measure => omega
      case rel => exact ⟨b, b + 20, d', rfl, by go_num, by omega, by omega, hlt, Nat.le_refl _, SA, HG⟩
    · have x1 : ¬ (b : Int) ≤ (n : Int) := by omega
      obtain ⟨A, B, e1, e2, hF, hSt, hl⟩ := HL.out
      obtain ⟨hz1, hz2⟩ := LEN.out dk hSt hl
      have lB : a + B.length = n := by have := congrArg List.length e1; have := HS.out; simp at *; omega
      have hc := HINS.out A B [] dk wr (by rw [e1]; simp) hz1 S1.out (by omega) n a n hz2 e2 (by omega)
      have HE : Hid (∀ d' : Array α, d'.toList = A ++ srt c B ++ [] → Runs c 20 d'.toList ∧ Stab c d.toList d'.toList ∧ d'.toList.length = d.toList.length) := Lib.hid (fun d' h => by
        rw [List.append_nil] at h
        refine ⟨?_, ?_, ?_⟩
        · rw [h]; exact hF.runs (by rw [srt_length]; omega) (srt_sorted HT.out B)
        · rw [h]; rw [e1] at hSt; have := Stab.mid (B := []) HT.out (by rw [List.append_nil]; exact hSt); rwa [List.append_nil] at this
        · rw [h, ← hl, e1]; simp [srt_length])
      have HC := Lib.hid hc
      clear hc HL e1 e2 hF hSt hl hz1 hz2 lB S1
      go_wp2_with (go_at_fn 185; refine HC.out.mono ?_; rintro e w' ⟨rfl, d', hd', S'⟩)
      have HG := Lib.hid (HE.out d' hd')
      have SA : Aside (SWK enc k w0 blk off d' w') := S'
      clear hd' S' HE HC hb1 hb2 hlt x1 hkx
      go_wp2
      go_loopg [6, 7, 8, 9] n (fun kx s6 _ _ _ wr => ∃ (bs : Nat) (dk : Array α), s6 = .int .i64 bs ∧ 0 < bs ∧ bs < 2 * n + 40 ∧ n - bs ≤ kx ∧ Aside (SWK enc k w0 blk off dk wr) ∧ Hid (Runs c bs dk.toList ∧ Stab c d.toList dk.toList ∧ dk.toList.length = d.toList.length))
      case atStart => exact ⟨20, d', rfl, by omega, by omega, by omega, SA, HG⟩
      case round =>
        clear SA HG
        obtain ⟨bs, dk, rfl, hbs, hbn, hkx, S1, HL⟩ := hrel
        by_cases hlt : bs < n
        · have x1 : (bs : Int) < (n : Int) := by omega
          obtain ⟨B, hB⟩ : ∃ B, B = 2 * bs := ⟨_, rfl⟩
          have xB : 2 * (bs : Int) = (B : Int) := by omega
          have xB2 : (bs : Int) * 2 = (B : Int) := by omega
          have hB1 : B ≤ 2 * bs := by omega
          have hB2 : 2 * bs ≤ B := by omega
          clear hB
          go_wp2
          go_loopg [7, 8] n (fun kx s7 s8 wr => ∃ (a b : Nat) (dk : Array α), s7 = .int .i64 a ∧ s8 = .int .i64 b ∧ b ≤ a + B ∧ a + B ≤ b ∧ a ≤ n ∧ n - a ≤ kx ∧ Aside (SWK enc k w0 blk off dk wr) ∧ Hid (∃ A R, dk.toList = A ++ R ∧ a = A.length ∧ Full c B A ∧ Runs c bs R ∧ Stab c d.toList dk.toList ∧ dk.toList.length = d.toList.length))
          case atStart => exact ⟨0, B, dk, rfl, rfl, by omega, by omega, by omega, by omega, S1, Lib.hid ⟨[], dk.toList, rfl, rfl, Full.nil c B, HL.out.1, HL.out.2.1, HL.out.2.2⟩⟩
          case round =>
            clear S1 HL
            obtain ⟨a, b, dk, rfl, rfl, hb1, hb2, ha, hkx2, S1, HL⟩ := hrel
            obtain ⟨A, R, e1, e2, hF, hR, hSt, hl⟩ := HL.out
            obtain ⟨hz1, hz2⟩ := LEN.out dk hSt hl
            have lR : a + R.length = n := by have := congrArg List.length e1; have := HS.out; simp at *; omega
            by_cases hlt2 : b ≤ n
            · have x2 : (b : Int) ≤ (n : Int) := by omega
              obtain ⟨X, Y, R2, eR, lX, lY, sX, sY, hR2⟩ := hR.two (by omega)
              have q : dk.toList = A ++ X ++ Y ++ R2 := by rw [e1, eR]; simp
              obtain ⟨m, hm⟩ : ∃ m, m = a + bs := ⟨_, rfl⟩
              have xm : (a : Int) + (bs : Int) = (m : Int) := by omega
              have hc := HSYM.out (X.length + Y.length) A X Y R2 dk wr (Nat.le_refl _) q hz1 S1.out (by omega) sX sY (by omega) (by omega) n a m b hz2 e2 (by omega) (by omega)
              have HE : Hid (∀ d' : Array α, d'.toList = A ++ srt c (X ++ Y) ++ R2 → ∃ A R, d'.toList = A ++ R ∧ b = A.length ∧ Full c B A ∧ Runs c bs R ∧ Stab c d.toList d'.toList ∧ d'.toList.length = d.toList.length) := Lib.hid (fun d' h => by
                refine ⟨A ++ srt c (X ++ Y), R2, h, by simp [srt_length]; omega, hF.snoc (by rw [srt_length]; simp; omega) (srt_sorted HT.out _), hR2, ?_, ?_⟩
                · rw [h]; rw [q] at hSt; exact Stab.mid HT.out (by rw [← List.append_assoc]; exact hSt)
                · rw [h, ← hl, q]; simp [srt_length]; omega)
              have HC := Lib.hid hc
              have hab : a < b := by omega
              clear hc HL e1 e2 hF hR hSt hl hz1 hz2 lR eR lX lY sX sY hR2 q S1 hm
              go_wp2_with (go_at_fn 186; refine HC.out.mono ?_; rintro e w' ⟨rfl, d', hd', S'⟩)
              have HG := Lib.hid (HE.out d' hd')
              have SA : Aside (SWK enc k w0 blk off d' w') := S'
              clear hd' S' HE HC
              go_wp2
              go_roundg (n - b)
              case measure => omega
              case rel => exact ⟨b, b + B, d', rfl, by go_num, by omega, by omega, hlt2, Nat.le_refl _, SA, HG⟩
            · have x2 : ¬ (b : Int) ≤ (n : Int) := by omega
              obtain ⟨m, hm⟩ : ∃ m, m = a + bs := ⟨_, rfl⟩
              have xm : (a : Int) + (bs : Int) = (m : Int) := by omega
              have HE : Hid (∀ d' : Array α, d'.toList = A ++ srt c R ++ [] → Runs c B d'.toList ∧ Stab c d.toList d'.toList ∧ d'.toList.length = d.toList.length) := Lib.hid (fun d' h => by
                rw [List.append_nil] at h
                refine ⟨?_, ?_, ?_⟩
                · rw [h]; exact hF.runs (by rw [srt_length]; omega) (srt_sorted HT.out R)
                · rw [h]; rw [e1] at hSt; have := Stab.mid (B := []) HT.out (by rw [List.append_nil]; exact hSt); rwa [List.append_nil] at this
                · rw [h, ← hl, e1]; simp [srt_length])
              by_cases hmn : m < n
              · have x3 : (m : Int) < (n : Int) := by omega
                obtain ⟨X, t, eR, lX, lt, sX, st⟩ := hR.one (by omega) (by omega)
                have hc := HSYM.out (X.length + t.length) A X t [] dk wr (Nat.le_refl _) (by rw [e1, eR]; simp) hz1 S1.out (by omega) sX st (by omega) lt n a m n hz2 e2 (by omega) (by rw [eR] at lR; simp at lR; omega)
                rw [← eR] at hc
                have HC := Lib.hid hc
                clear hc HL e1 e2 hF hR hSt hl hz1 hz2 lR eR lX lt sX st S1 hm
                go_wp2_with (go_at_fn 186; refine HC.out.mono ?_; rintro e w' ⟨rfl, d', hd', S'⟩)
                have HG := Lib.hid (HE.out d' hd')
                have SA : Aside (SWK enc k w0 blk off d' w') := S'
                clear hd' S' HE HC
                go_wp2
                go_roundg (n - B)
                case measure => omega
                case rel => exact ⟨B, d', by go_num, by omega, by omega, Nat.le_refl _, SA, HG⟩
              · have x3 : ¬ (m : Int) < (n : Int) := by omega
                have HG := Lib.hid (HE.out dk (by rw [e1, srt_self HT.out (hR.small (by omega))]; simp))
                clear HL e1 e2 hF hR hSt hl hz1 hz2 lR hm HE
                go_wp2
                go_roundg (n - B)
                case measure => omega
                case rel => exact ⟨B, dk, by go_num, by omega, by omega, Nat.le_refl _, S1, HG⟩
        · have x1 : ¬ (bs : Int) < (n : Int) := by omega
          go_wp2
          go_end0
          obtain ⟨h1, h2, h3⟩ := HL.out
          exact ⟨rfl, dk, srt_is HT.out (h1.small (by have := HS.out; omega)) h2, S1.out⟩

end Go.Proofs.YticiofkiffgclaaGreat

namespace Go.Proofs.YticiofkiffgclaaGreat
open Go.RowKit

def RdI (w : World) (v : Value) (l : List Int) : Prop :=
  ∃ a c, v = .slice a l.length c ∧ l.length ≤ c ∧ c ≤ maxLen ∧ (a = none → c = 0) ∧
    (l ≠ [] → ∃ b o, a = some ⟨b, o, none⟩ ∧ ∀ i, i < l.length → w.cell? ⟨b, o + i, none⟩ = some (.int .i64 (l.getD i 0)))

theorem RdI.kept {w w' : World} {v : Value} {l : List Int} {bs : List Nat} (h : RdI w v l) (hk : Kept w w' bs) (hb : ∀ b, v.ownBlock = some b → b ∉ bs) : RdI w' v l := by
  obtain ⟨a, c, rfl, hc, hm, ha, hl⟩ := h
  refine ⟨a, c, rfl, hc, hm, ha, fun hne => ?_⟩
  obtain ⟨b, o, rfl, hcell⟩ := hl hne
  exact ⟨b, o, rfl, fun i hi => hk.cell (p := ⟨b, o + i, none⟩) (hb b rfl) (hcell i hi)⟩

theorem RdI.keep {w w' : World} {v : Value} {l : List Int} (h : RdI w v l) (hk : Kept w w' []) : RdI w' v l := h.kept hk (by simp)

theorem RdI.nil (w : World) : RdI w (.slice none 0 0) [] := ⟨none, 0, rfl, Nat.le_refl _, by unfold maxLen; omega, fun _ => rfl, fun h => absurd rfl h⟩

theorem RdI.len {w : World} {v : Value} {l : List Int} (h : RdI w v l) : l.length ≤ 9223372036854775807 := by
  obtain ⟨a, c, _, h1, h2, _⟩ := h
  unfold maxLen at h2; omega

theorem mem_take_succ {l : List Int} {k : Nat} {x : Int} (hk : k < l.length) (h1 : x ∉ l.take k) (h2 : l[k] ≠ x) : x ∉ l.take (k + 1) := by
  rw [List.take_succ_eq_append_getElem hk, List.mem_append]
  rintro (h | h)
  · exact h1 h
  · exact h2 (List.mem_singleton.1 h).symm

theorem mem_whole {l : List Int} {k : Nat} {x : Int} (hk : l.length ≤ k) (h : x ∉ l.take k) : x ∉ l := by
  rwa [List.take_of_length_le hk] at h

theorem retb {a b : Bool} (h : a = b) : Ending.returned (.bool a) = .returned (.bool b) := by rw [h]

set_option maxHeartbeats 400000 in
theorem has_any (v : Value) (l : List Int) (x : Int) (w : World) (h : RdI w v l) :
    Calls Tryz.prog 98 #[v, .int .i64 x] w fun e w' => e = .returned (.bool (decide (x ∈ l))) ∧ w = w' := by
  have hlen := h.len
  obtain ⟨a, c, rfl, hc, hm, _, hl⟩ := h
  by_cases hne : l = []
  · subst hne
    clear hl
    go_enter Tryz.func98, Tryz.ntmps98
    go_wp2
    go_loop [5] (fun t => t = .int .i64 0) (fun _ => 0)
    case atStart => rfl
    case round =>
      subst hrel
      go_wp2
      go_ret
      exact ⟨retb (by simp), rfl⟩
  · obtain ⟨b, o, rfl, hcell⟩ := hl hne
    have C := Lib.hid hcell
    clear hcell hl
    go_enter Tryz.func98, Tryz.ntmps98
    go_wp2
    go_loop [5] (fun t => ∃ k : Nat, t = .int .i64 k ∧ k ≤ l.length ∧ x ∉ l.take k) (fun t => l.length - (intOf t).toNat)
    case atStart => exact ⟨0, rfl, Nat.zero_le _, by simp⟩
    case round =>
      obtain ⟨k, rfl, hk, hx⟩ := hrel
      have Hx := Lib.hid hx; clear hx
      by_cases hlt : k < l.length
      · have c1 := C.out k hlt
        have x1 : (k : Int) < (l.length : Int) := by omega
        by_cases he : l[k] = x
        · have x2 : (l[k] == x) = true := by simpa using he
          have Hm := Lib.hid (show x ∈ l by rw [← he]; exact List.getElem_mem hlt)
          clear he
          go_wp2
          go_ret
          exact ⟨retb (by simp [Hm.out]), rfl⟩
        · have x2 : (l[k] == x) = false := by simpa using he
          have He := Lib.hid he; clear he
          go_wp2
          go_round
          case rel => exact ⟨k + 1, by go_num, by omega, mem_take_succ hlt Hx.out He.out⟩
          case measure => simp [intOf]; omega
      · have x1 : ¬ (k : Int) < (l.length : Int) := by omega
        have Hm := Lib.hid (mem_whole (by omega) Hx.out)
        go_wp2
        go_ret
        exact ⟨retb (by simp [Hm.out]), rfl⟩

set_option maxHeartbeats 400000 in
theorem index_any (v : Value) (l : List Int) (x : Int) (w : World) (h : RdI w v l) :
    Calls Tryz.prog 226 #[v, .int .i64 x] w fun e w' => ∃ r : Int, e = .returned (.int .i64 r) ∧ (0 ≤ r ↔ x ∈ l) ∧ w = w' := by
  have hlen := h.len
  obtain ⟨a, c, rfl, hc, hm, _, hl⟩ := h
  by_cases hne : l = []
  · subst hne
    clear hl
    go_enter Tryz.func226, Tryz.ntmps226
    go_wp2
    go_loop [8] (fun t => t = .int .i64 0) (fun _ => 0)
    case atStart => rfl
    case round =>
      subst hrel
      go_wp2
      go_ret
      exact ⟨_, rfl, by simp, rfl⟩
  · obtain ⟨b, o, rfl, hcell⟩ := hl hne
    have C := Lib.hid hcell
    clear hcell hl
    go_enter Tryz.func226, Tryz.ntmps226
    go_wp2
    go_loop [8] (fun t => ∃ k : Nat, t = .int .i64 k ∧ k ≤ l.length ∧ x ∉ l.take k) (fun t => l.length - (intOf t).toNat)
    case atStart => exact ⟨0, rfl, Nat.zero_le _, by simp⟩
    case round =>
      obtain ⟨k, rfl, hk, hx⟩ := hrel
      have Hx := Lib.hid hx; clear hx
      by_cases hlt : k < l.length
      · have c1 := C.out k hlt
        have x1 : (k : Int) < (l.length : Int) := by omega
        by_cases he : l[k] = x
        · have x2 : (x == l[k]) = true := by simpa using he.symm
          have Hm := Lib.hid (show x ∈ l by rw [← he]; exact List.getElem_mem hlt)
          clear he
          go_wp2
          go_ret
          exact ⟨_, rfl, iff_of_true (by omega) Hm.out, rfl⟩
        · have x2 : (x == l[k]) = false := by rw [beq_eq_false_iff_ne]; exact fun h => he h.symm
          have He := Lib.hid he; clear he
          go_wp2
          go_round
          case rel => exact ⟨k + 1, by go_num, by omega, mem_take_succ hlt Hx.out He.out⟩
          case measure => simp [intOf]; omega
      · have x1 : ¬ (k : Int) < (l.length : Int) := by omega
        have Hm := Lib.hid (mem_whole (by omega) Hx.out)
        go_wp2
        go_ret
        exact ⟨_, rfl, iff_of_false (by omega) Hm.out, rfl⟩

theorem contains_any (v : Value) (l : List Int) (x : Int) (w : World) (h : RdI w v l) :
    Calls Tryz.prog 213 #[v, .int .i64 x] w fun e w' => e = .returned (.bool (decide (x ∈ l))) ∧ w = w' := by
  go_enter Tryz.func213, Tryz.ntmps213
  go_wp2_with fail
  refine (index_any v l x w h).mono ?_
  rintro e w1 ⟨r, rfl, hr, rfl⟩
  have Hr := Lib.hid hr; clear hr
  go_wp2
  go_ret
  exact ⟨retb (by simp [Hr.out]), rfl⟩

end Go.Proofs.YticiofkiffgclaaGreat

namespace Go.Proofs.YticiofkiffgclaaGreat
open Go.RowKit

def seesB (M : Int) (l : List Int) (x : Int) : Bool := decide (1 ≤ x) && (decide (x < M) && !decide (x ∈ l))

theorem seesB_iff {M : Int} {l : List Int} {x : Int} : seesB M l x = true ↔ 1 ≤ x ∧ x < M ∧ x ∉ l := by
  simp [seesB]

set_option maxHeartbeats 400000 in
theorem sees_any (M x : Int) (v : Value) (l : List Int) (w : World) (h : RdI w v l) :
    Calls Tryz.prog 187 #[.agg #[.int .i64 M, v], .int .i64 x] w fun e w' => e = .returned (.bool (seesB M l x)) ∧ Kept w w' [] := by
  have H := Lib.hid h
  obtain ⟨a, c, rfl, _⟩ := h
  by_cases h1 : (1 : Int) ≤ x
  · by_cases h2 : x < M
    · have r1 : seesB M l x = !decide (x ∈ l) := by simp [seesB, h1, h2]
      have R1 := Lib.hid r1; clear r1
      go_enter Tryz.func187, Tryz.ntmps187
      go_wp2_with fail
      refine (contains_any _ l x _ (H.out.keep ((Kept.refl w []).alloc _))).mono ?_
      rintro e w1 ⟨rfl, rfl⟩
      go_wp2
      go_ret
      exact ⟨retb R1.out.symm, (Kept.refl w []).alloc _⟩
    · have r1 : seesB M l x = false := by simp [seesB, h2]
      have R1 := Lib.hid r1; clear r1
      go_enter Tryz.func187, Tryz.ntmps187
      go_wp2
      go_ret
      exact ⟨retb R1.out.symm, (Kept.refl w []).alloc _⟩
  · have r1 : seesB M l x = false := by simp [seesB, h1]
    have R1 := Lib.hid r1; clear r1
    go_enter Tryz.func187, Tryz.ntmps187
    go_wp2
    go_ret
    exact ⟨retb R1.out.symm, (Kept.refl w []).alloc _⟩

end Go.Proofs.YticiofkiffgclaaGreat
