/-
  The contract of Expand. Conditions: the slice of runs is read as told (Seen), there are at most a thousand of them.
-/
import Derived.Test.YtnobeghnljjidaaD
namespace Go.Proofs.Ytnobeghnljjidaa
open Go.RowKit
set_option maxRecDepth 100000

/-- A run's cells. -/
def rc (t : Rn) : List Value := [.int .i64 t.sign, .int .i64 t.more]
def rvs (l : List Rn) : List Value := l.flatMap rc
theorem rvs_length (l : List Rn) : (rvs l).length = l.length * 2 := by
  induction l with
  | nil => rfl
  | cons t l ih =>
    have : rvs (t :: l) = rc t ++ rvs l := rfl
    rw [this, List.length_append, ih]
    simp [rc]
    omega
theorem rvs_append (a b : List Rn) : rvs (a ++ b) = rvs a ++ rvs b := by simp [rvs]
theorem rvs_get : ∀ (l : List Rn) (k j : Nat) (h : k < l.length), j < 2 → (rvs l)[k * 2 + j]? = (rc l[k])[j]?
  | t :: l, 0, j, h, hj => by
    have : rvs (t :: l) = rc t ++ rvs l := rfl
    rw [this, List.getElem?_append_left (by simp [rc]; omega)]
    simp
  | t :: l, k + 1, j, h, hj => by
    have : rvs (t :: l) = rc t ++ rvs l := rfl
    rw [this, List.getElem?_append_right (by simp [rc]; omega)]
    have e : (k + 1) * 2 + j - (rc t).length = k * 2 + j := by simp [rc]; omega
    rw [e, rvs_get l k j (by simpa using h) hj]
    simp

theorem Seen.rn {w : World} {B n c : Nat} {A : Option Addr} {l : List Rn} (h : Seen w B 2 A n c (rvs l)) {k : Nat} (hk : k < n) : ∃ (t : Rn) (b o : Nat), l[k]? = some t ∧ A = some ⟨b, o, none⟩ ∧ b < B ∧ w.cell? ⟨b, o + k * 2, none⟩ = some (.int .i64 t.sign) ∧ w.cell? ⟨b, o + k * 2 + 1, none⟩ = some (.int .i64 t.more) := by
  obtain ⟨h1, h2, h3⟩ := h
  rw [rvs_length] at h1
  have hl : k < l.length := by omega
  rcases h3 with ⟨_, h3⟩ | ⟨⟨b, o, s⟩, ha, h3⟩
  · omega
  · obtain ⟨g1, g2, g3⟩ := h3 (by intro e; have := rvs_length l; rw [e] at this; simp at this; omega)
    simp only at g1 g2 g3
    subst g1
    refine ⟨l[k], b, o, List.getElem?_eq_getElem hl, ha, g2, ?_, ?_⟩
    · exact g3 (k * 2) _ (rvs_get l k 0 hl (by omega))
    · have := g3 (k * 2 + 1) _ (rvs_get l k 1 hl (by omega))
      rwa [← Nat.add_assoc] at this

/-- What Expand answers. -/
def ExpRes (l : List Rn) (w : World) (e : Ending) (w' : World) : Prop :=
  (∃ o v, expR l [] = (0, o) ∧ e = .returned (.tuple #[v, .int .i64 0]) ∧ w'.ownsRow w.heap.size 3 1 v o.length (iv o) ∧ o.length ≤ 320 ∧ Below w.heap.size w w') ∨
  (∃ er : Nat, er ≠ 0 ∧ er < 100 ∧ expR l [] = (er, []) ∧ e = .returned (.tuple #[.slice none 0 0, .int .i64 er]) ∧ Below w.heap.size w w')

theorem one_int (x : Int) : ∀ u ∈ [Value.int .i64 x], u.oneCell' = true := by simp [Value.oneCell']

theorem addR_take (o : List Int) (x : Int) (j : Nat) : o ++ List.replicate (j + 1) x = (o ++ List.replicate j x) ++ [x] := by
  rw [List.replicate_succ', List.append_assoc]

set_option maxHeartbeats 2000000 in
theorem expand_any (A : Option Addr) (n c B : Nat) (l : List Rn) (hn : n ≤ 1000) (w : World) (hs : Seen w B 2 A n c (rvs l)) (hB : B ≤ w.heap.size) :
    Calls Try.prog 10 #[.slice A n c] w (ExpRes l w) := by
  obtain ⟨i0, hi0, hz0, hz1, hz2⟩ := info_parts int_info
  have hln : l.length = n := by have := hs.1; rw [rvs_length] at this; omega
  have HS := Lib.hid hs; clear hs
  have HLN := Lib.hid hln; clear hln
  have HO0 : Hid ((w.alloc (.cells #[] 3)).ownsRow w.heap.size 3 1 (.slice (some ⟨w.heap.size, 0, none⟩) 0 0) ([] : List Int).length (iv [])) := Lib.hid (World.ownsRow_made w #[] 0 (Nat.le_refl _) (by simp [maxLen]) rfl)
  go_enter Try.func10, Try.ntmps10
  go_wp2_with fail
  go_loopw [4, 12] (fun s i wr => ∃ (k : Nat) (o : List Int), k ≤ n ∧ i = .int .i64 k ∧ wr.ownsRow w.heap.size 3 1 s o.length (iv o) ∧ expR l [] = expR (l.drop k) o ∧ o.length ≤ 320 ∧ Below w.heap.size w wr) (fun _ i _ => n - (intOf i).toNat)
  case atStart => exact ⟨0, [], Nat.zero_le _, rfl, HO0.out, rfl, by simp, (Below.refl _ _).alloc (Nat.le_refl _) _⟩
  case round =>
    obtain ⟨k, o, hk, rfl, hown, hexp, hom, hbel⟩ := hrel
    by_cases hlt : k < n
    · obtain ⟨t, b, of', ht, rfl, hbB, c0, c1⟩ := (HS.out.below (hbel.mono hB)).rn hlt
      have hbr : b < wr.heap.size := by have := hbel.size; omega
      have hne : wr.heap.size ≠ b := by omega
      have hdr : l.drop k = t :: l.drop (k + 1) := by
        obtain ⟨hkl, ht2⟩ := List.getElem?_eq_some_iff.1 ht
        rw [List.drop_eq_getElem_cons hkl, ht2]
      rw [hdr] at hexp
      obtain ⟨ts, tm⟩ := t
      simp only at c0 c1
      obtain ⟨As, cs, rfl, _⟩ := own_form hown
      have CW := Lib.hid (fun W => wrong_any ts tm o.length (by omega) W)
      obtain ⟨x, hx⟩ : ∃ x, wrongR ⟨ts, tm⟩ o.length = x := ⟨_, rfl⟩
      rw [hx] at CW
      have hB2 : Below wr.heap.size wr (wr.alloc (.cells #[.int .i64 ts, .int .i64 tm] 26)) := (Below.refl _ _).alloc (Nat.le_refl _) _
      have HO := Lib.hid hown
      have HBel := Lib.hid hbel
      have HB2 := Lib.hid hB2
      have hsz := hbel.size
      have HX := Lib.hid hx
      obtain ⟨ol, hol⟩ : ∃ ol, o.length = ol := ⟨_, rfl⟩
      rw [hol] at CW hom HO ⊢
      have HOL := Lib.hid hol
      clear hown hbel hB2 ht hdr hx hol
      by_cases hx0 : x = 0
      · subst hx0
        rw [expR_ok HX.out] at hexp
        have HE := Lib.hid hexp; clear hexp
        have hk0 : (0 : Int) ≤ k := by omega
        go_wp2_with fail
        refine (CW.out _).mono ?_; rintro e w1 ⟨rfl, hb1⟩
        have hB3 := HB2.out.trans (hb1.mono (by simp))
        have hO3 := (own_only HO.out (Only.of_below hB3 Nob) (fun _ _ h => h))
        have hWk : Whole w1 wr.heap.size 26 #[.int .i64 ts, .int .i64 tm] := (Whole.new wr 26 _).only (Only.of_below hb1 Nob) (fun h => h)
        have k0 : w1.cell? ⟨wr.heap.size, 0, none⟩ = some (.int .i64 ts) := hWk.cell 0
        have k1 : w1.cell? ⟨wr.heap.size, 1, none⟩ = some (.int .i64 tm) := hWk.cell 1
        have HB3 := Lib.hid (HBel.out.trans (hB3.mono HBel.out.size)); clear hb1 hB3 hWk
        obtain ⟨q1, q2, q3⟩ := wrongR_ok HX.out
        have CT := Lib.hid (told_any ts As ol cs w1.heap.size o HOL.out (by omega) (fun h => by have := HOL.out; simp only at q2; omega) w1 (Seen.of_own hO3))
        have HO3 := Lib.hid hO3
        obtain ⟨y, hy⟩ : ∃ y, toldR ts o = y := ⟨_, rfl⟩
        rw [hy] at CT
        have h4 := rightR_nums q1
        simp only at h4 q3
        have h5 := leastR_pos ts
        have h6 := roomR_pos ts
        obtain ⟨t, ht⟩ : ∃ t, leastR ts = t := ⟨_, rfl⟩
        rw [ht] at h5 q3
        have hlen := (addR_length HX.out).2
        have hadd : addR ⟨ts, tm⟩ o = o ++ List.replicate (t + tm).toNat y := by unfold addR; simp only; rw [ht, hy]
        rw [hadd] at HE hlen
        have HT := Lib.hid ht
        obtain ⟨N, hN⟩ : ∃ N : Nat, t + tm = N := Int.eq_ofNat_of_zero_le (by omega)
        rw [hN] at q3 hlen
        have HE2 : Hid (expR l [] = expR (l.drop (k + 1)) (o ++ List.replicate N y)) := Lib.hid (by rw [HE.out, hN, Int.toNat_natCast])
        have HLE : Hid ((o ++ List.replicate N y).length ≤ 320) := Lib.hid (by rw [Int.toNat_natCast] at hlen; exact hlen)
        have hN2 : N ≤ 320 := by have := HOL.out; omega
        have hoN : ol + N ≤ 320 := by have := HLE.out; simp at this; have := HOL.out; omega
        have wN : IntKind.i64.wrap (N : Int) = N := IntWalk.i64_in _ (by omega)
        clear q1 q2 h4 h6 ht hy hadd HE hlen
        go_wp2_with fail
        refine CT.out.mono ?_
        rintro e w2 ⟨rfl, rfl⟩
        go_wp2_with fail
        go_quiet ((go_at_call 16; exact least_quiet ts t HT.out _ _))
        go_wp2_with fail
        go_loopw [4, 33] (fun s i wq => ∃ j : Nat, j ≤ N ∧ i = .int .i64 j ∧ wq.ownsRow w.heap.size 3 1 s (ol + j) (iv (o ++ List.replicate j y)) ∧ Below w.heap.size w wq) (fun _ i _ => N - (intOf i).toNat)
        case atStart => exact ⟨0, Nat.zero_le _, rfl, by simpa using own_only HO3.out ((Only.refl Nob _).drewN _) (fun _ _ h => h), below_drewN HB3.out _⟩
        case round =>
          obtain ⟨j, hj, rfl, hown4, hbel4⟩ := hrel
          by_cases hjN : j < N
          · have dj : decide ((j : Int) < N) = true := decide_eq_true (by omega)
            obtain ⟨A4, c4, rfl, _⟩ := own_form hown4
            have HS5 : Hid (Seen (wr.alloc (.cells #[.int .i64 y] 3)) (wr.heap.size + 1) 1 (some ⟨wr.heap.size, 0, none⟩) 1 1 [.int .i64 y]) := Lib.hid (seen_one wr 3 (.int .i64 y))
            have hB5 : Below wr.heap.size wr (wr.alloc (.cells #[.int .i64 y] 3)) := (Below.refl _ _).alloc (Nat.le_refl _) _
            have HO5 := Lib.hid (own_only hown4 (Only.of_below hB5 Nob) (fun _ _ h => h))
            have hbk : w.heap.size ≤ wr.heap.size := hbel4.size
            have hkk : ∀ k, (Value.slice A4 (ol + j) c4).ownBlock = some k → w.heap.size ≤ k := fun k hk => (own_whole hown4 hk).1
            have HKK := Lib.hid hkk
            have HBEL := Lib.hid hbel4
            clear hown4 hbel4 hB5 hkk
            go_wp2_with (at_builtin; (refine wpList_append_seen _ rfl (.tmp 35) (.tmp 37) _ rfl w.heap.size 3 i0 _ 1 8 Try.underlying24 hi0 hz0 hz1 hz2 rfl (by omega) (.slice A4 (ol + j) c4) (ol + j) (iv (o ++ List.replicate j y)) rfl HO5.out _ _ 1 1 [.int .i64 y] rfl HS5.out (one_int y) (by simp only [maxLen]; omega) (by omega) (by simp; omega) ?_); intro v2 w3 hown2 hg2 hat2)
            have hb2 := (HBEL.out.alloc hbk (.cells #[.int .i64 y] 3)).grown hg2 (by simp; omega) (fun k hk => HKK.out k hk)
            go_roundw
            case rel => exact ⟨j + 1, by omega, by go_num, by rw [addR_take, iv_append]; exact hown2, hb2⟩
            case measure => simp [intOf]; omega
          · obtain rfl : j = N := by omega
            have dj : decide ((j : Int) < j) = false := decide_eq_false (by omega)
            have HO5 := Lib.hid hown4
            have HB5 := Lib.hid hbel4
            clear hown4 hbel4
            go_wp2_with fail
            go_roundw
            case rel => exact ⟨k + 1, o ++ List.replicate j y, by omega, by go_num, by rw [List.length_append, List.length_replicate, HOL.out]; exact HO5.out, HE2.out, HLE.out, HB5.out⟩
            case measure => simp [intOf]; omega
      · rw [expR_er (by rw [HX.out]; exact hx0), HX.out] at hexp
        have hx100 : x < 100 := by rw [← HX.out]; exact wrongR_lt _ _
        have HE := Lib.hid hexp; clear hexp
        have hk0 : (0 : Int) ≤ k := by omega
        have dx : ((x : Int) != 0) = true := by simpa using hx0
        go_wp2_with fail
        refine (CW.out _).mono ?_; rintro e w1 ⟨rfl, hb1⟩
        have HB3 := Lib.hid (HB2.out.trans (hb1.mono (by simp))); clear hb1
        go_wp2_with fail
        go_ret2
        exact .inr ⟨x, hx0, hx100, HE.out, rfl, HBel.out.trans (HB3.out.mono HBel.out.size)⟩
    · obtain rfl : k = n := by omega
      rw [List.drop_eq_nil_of_le (by rw [HLN.out]; exact Nat.le_refl _)] at hexp
      have HO := Lib.hid hown
      have HBel := Lib.hid hbel
      have HE := Lib.hid hexp
      clear hown hbel hexp
      obtain ⟨As, cs, rfl, _⟩ := own_form HO.out
      go_wp2_with fail
      go_ret2
      exact .inl ⟨o, _, HE.out, rfl, HO.out, hom, HBel.out⟩
end Go.Proofs.Ytnobeghnljjidaa
