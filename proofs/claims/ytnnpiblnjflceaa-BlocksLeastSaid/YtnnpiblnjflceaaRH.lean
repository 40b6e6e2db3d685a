/-
  Contracts of greatest, like, IndexFunc with isBeyond, ContainsFunc. Conditions: each theorem names its own.
-/
import Derived.Test.YtnnpiblnjflceaaRG
namespace Go.Proofs.Ytnnpiblnjflceaa
open Go.RowKit
set_option maxRecDepth 100000


set_option maxHeartbeats 2000000 in
theorem great_any (x u : Int) (w : World) : Calls Try.prog 88 #[.int .i64 x, .int .i64 u] w fun e w' => e = .returned (.int .i64 (greatR x u)) ∧ w = w' := by
  obtain ⟨r, hr⟩ : ∃ r, greatR x u = r := ⟨_, rfl⟩
  rw [hr]
  unfold greatR at hr
  have C1 := Lib.hid (fun W => (show Calls Try.prog 89 #[.int .i64 16] W fun e w' => e = .returned (.int .i64 3) ∧ W = w' from least_any 16 W))
  have C2 := Lib.hid (fun W => (show Calls Try.prog 89 #[.int .i64 17] W fun e w' => e = .returned (.int .i64 3) ∧ W = w' from least_any 17 W))
  have C3 := Lib.hid (fun W => (show Calls Try.prog 89 #[.int .i64 18] W fun e w' => e = .returned (.int .i64 11) ∧ W = w' from least_any 18 W))
  have HR := Lib.hid hr; clear hr
  by_cases h0 : 0 < x
  · have d0 : decide (0 < x) = true := decide_eq_true h0
    have dz : (x == 0) = false := by simp; omega
    by_cases h3 : 3 ≤ u
    · have d3 : decide (3 ≤ u) = true := decide_eq_true h3
      go_enter Try.func88, Try.ntmps88
      go_wp2_with (go_at_call 89; refine (C1.out _).mono ?_; rintro e w2 ⟨rfl, rfl⟩)
      go_ret
      exact ⟨ret_int (by rw [← HR.out, if_pos ⟨h0, h3⟩]), rfl⟩
    · have d3 : decide (3 ≤ u) = false := decide_eq_false h3
      go_enter Try.func88, Try.ntmps88
      go_wp2_with (go_at_call 89; refine (C1.out _).mono ?_; rintro e w2 ⟨rfl, rfl⟩)
      go_ret
      exact ⟨ret_int (by rw [← HR.out, if_neg (by omega), if_neg (by omega), if_neg (by omega)]), rfl⟩
  · have d0 : decide (0 < x) = false := decide_eq_false h0
    by_cases hz : x = 0
    · subst hz
      by_cases h11 : 11 ≤ u
      · have d11 : decide (11 ≤ u) = true := decide_eq_true h11
        go_enter Try.func88, Try.ntmps88
        go_wp2_with (go_at_call 89; refine (C3.out _).mono ?_; rintro e w2 ⟨rfl, rfl⟩)
        go_ret
        exact ⟨ret_int (by rw [← HR.out, if_neg (by omega), if_pos (by simp; omega)]), rfl⟩
      · have d11 : decide (11 ≤ u) = false := decide_eq_false h11
        by_cases h3 : 3 ≤ u
        · have d3 : decide (3 ≤ u) = true := decide_eq_true h3
          go_enter Try.func88, Try.ntmps88
          go_wp2_with (first | (go_at_call 89; refine (C3.out _).mono ?_; rintro e w2 ⟨rfl, rfl⟩) | (go_at_call 89; refine (C2.out _).mono ?_; rintro e w2 ⟨rfl, rfl⟩))
          go_ret
          exact ⟨ret_int (by rw [← HR.out, if_neg (by omega), if_neg (by omega), if_pos (by simp; omega)]), rfl⟩
        · have d3 : decide (3 ≤ u) = false := decide_eq_false h3
          go_enter Try.func88, Try.ntmps88
          go_wp2_with (first | (go_at_call 89; refine (C3.out _).mono ?_; rintro e w2 ⟨rfl, rfl⟩) | (go_at_call 89; refine (C2.out _).mono ?_; rintro e w2 ⟨rfl, rfl⟩))
          go_ret
          exact ⟨ret_int (by rw [← HR.out, if_neg (by omega), if_neg (by omega), if_neg (by omega)]), rfl⟩
    · have dz : (x == 0) = false := by simpa using hz
      go_enter Try.func88, Try.ntmps88
      go_wp2_with fail
      go_ret
      exact ⟨ret_int (by rw [← HR.out, if_neg (by omega), if_neg (by omega), if_neg (by omega)]), rfl⟩

/-- How many of the first lengths are the same. -/
theorem like_any (A : Option Addr) (n c B : Nat) (l : List Int) (hn : l.length = n) (h1 : 1 ≤ n) (h2 : n ≤ 1000) (w : World) (hs : Seen w B 1 A n c (iv l)) :
    Calls Try.prog 76 #[.slice A n c] w fun e w' => w = w' ∧ ∃ k : Nat, e = .returned (.int .i64 k) ∧ 1 ≤ k ∧ k ≤ n ∧ l.take k = List.replicate k (l.getD 0 0) ∧ k = likeN l := by
  obtain ⟨b, o, rfl, hb, c0⟩ := hs.int hn (k := 0) (by omega)
  have e0 : l[0]'(by omega) = l.getD 0 0 := by simp [List.getD, show 0 < l.length by omega]
  rw [e0, Nat.add_zero] at c0
  have HN := Lib.hid hn
  obtain ⟨x, hx⟩ : ∃ x, l.getD 0 0 = x := ⟨_, rfl⟩
  rw [hx] at c0 ⊢
  have HX := Lib.hid hx
  have HS := Lib.hid hs
  clear hs hx e0 hn
  go_enter Try.func76, Try.ntmps76
  go_wp2_with fail
  go_loopw [7] (fun i wr => ∃ k : Nat, k ≤ n ∧ i = .int .i64 k ∧ Hid (l.take k = List.replicate k x) ∧ w = wr) (fun i _ => n - (intOf i).toNat)
  case atStart => exact ⟨0, Nat.zero_le _, rfl, Lib.hid rfl, rfl⟩
  case round =>
    obtain ⟨k, hk, rfl, hall, rfl⟩ := hrel
    by_cases hlt : k < n
    · obtain ⟨b', o', e, _, c1⟩ := HS.out.int HN.out hlt
      injection e with e
      injection e with e1 e2
      subst e1 e2
      have hk0 : (0 : Int) ≤ k := by omega
      have hkl : k < l.length := by have := HN.out; omega
      obtain ⟨y, hy⟩ : ∃ y, l[k]'hkl = y := ⟨_, rfl⟩
      rw [hy] at c1
      have HT : Hid (l.take (k + 1) = l.take k ++ [y]) := Lib.hid (by rw [← hy, List.take_append_getElem])
      by_cases hxy : y = x
      · subst hxy
        have dx : (y != y) = false := by simp
        clear hy
        go_wp2_with fail
        go_roundw
        case rel => exact ⟨k + 1, by omega, by go_num, Lib.hid (by rw [HT.out, hall.out, List.replicate_succ']), by trivial⟩
        case measure => simp [intOf]; omega
      · have dx : (y != x) = true := by simpa using hxy
        have hk1 : 1 ≤ k := by
          rcases Nat.eq_zero_or_pos k with h | h
          · subst h
            exfalso
            apply hxy
            rw [← hy, ← HX.out]
            simp [List.getD, hkl]
          · exact h
        have HLK := Lib.hid (like_eq HX.out hall.out (by omega) (.inr (by simp only [List.getD]; rw [List.getElem?_eq_getElem hkl]; simpa [hy] using hxy)))
        clear hy hxy
        go_wp2_with fail
        go_ret
        exact ⟨rfl, k, rfl, hk1, by omega, hall.out, HLK.out⟩
    · obtain rfl : k = n := by omega
      go_wp2_with fail
      go_ret
      exact ⟨rfl, k, rfl, h1, Nat.le_refl _, hall.out, like_eq HX.out hall.out (by rw [HN.out]; exact Nat.le_refl _) (.inl HN.out.symm)⟩

/-- Whether a length is beyondR what one may be. -/
def beyondR (l : List Int) : Bool := l.any fun y => decide (y < 0) || decide (15 < y)

theorem index_any (A : Option Addr) (n c B : Nat) (l : List Int) (hn : l.length = n) (h2 : n ≤ 1000) (w : World) (hs : Seen w B 1 A n c (iv l)) :
    Calls Try.prog 83 #[.slice A n c, .func (.func 75) #[] #[]] w fun e w' => w = w' ∧ ∃ k : Int, e = .returned (.int .i64 k) ∧ decide (0 ≤ k) = beyondR l := by
  have HN := Lib.hid hn
  have HS := Lib.hid hs
  clear hs hn
  go_enter Try.func83, Try.ntmps83
  go_wp2_with fail
  go_loopw [8] (fun i wr => ∃ k : Nat, k ≤ n ∧ i = .int .i64 k ∧ Hid (beyondR (l.take k) = false) ∧ w = wr) (fun i _ => n - (intOf i).toNat)
  case atStart => exact ⟨0, Nat.zero_le _, rfl, Lib.hid rfl, rfl⟩
  case round =>
    obtain ⟨k, hk, rfl, hall, rfl⟩ := hrel
    by_cases hlt : k < n
    · obtain ⟨b', o', rfl, _, c1⟩ := HS.out.int HN.out hlt
      have hk0 : (0 : Int) ≤ k := by omega
      have hkl : k < l.length := by have := HN.out; omega
      obtain ⟨y, hy⟩ : ∃ y, l[k]'hkl = y := ⟨_, rfl⟩
      rw [hy] at c1
      have HT : Hid (l.take (k + 1) = l.take k ++ [y]) := Lib.hid (by rw [← hy, List.take_append_getElem])
      have HM : Hid (y ∈ l) := Lib.hid (by rw [← hy]; exact List.getElem_mem hkl)
      have CB := Lib.hid (fun W => beyond_any y W)
      obtain ⟨q, hq⟩ : ∃ q, (decide (y < 0) || decide (15 < y)) = q := ⟨_, rfl⟩
      rw [hq] at CB
      have HQ := Lib.hid hq
      clear hy hq
      cases q with
      | false =>
        go_wp2_with fail
        refine (CB.out _).mono ?_; rintro e w2 ⟨rfl, rfl⟩
        go_wp2_with fail
        go_roundw
        case rel => exact ⟨k + 1, by omega, by go_num, Lib.hid (by rw [HT.out]; unfold beyondR at *; rw [List.any_append, hall.out]; simp [HQ.out]), by trivial⟩
        case measure => simp [intOf]; omega
      | true =>
        go_wp2_with fail
        refine (CB.out _).mono ?_; rintro e w2 ⟨rfl, rfl⟩
        go_wp2_with fail
        go_ret
        exact ⟨rfl, k, rfl, by
          have : beyondR l = true := List.any_eq_true.2 ⟨y, HM.out, HQ.out⟩
          rw [this]
          exact decide_eq_true hk0⟩
    · obtain rfl : k = n := by omega
      go_wp2_with fail
      go_ret
      exact ⟨rfl, -1, rfl, by
        have := hall.out
        rw [List.take_of_length_le (by rw [HN.out]; exact Nat.le_refl _)] at this
        rw [this]
        rfl⟩

theorem containsR_any (A : Option Addr) (n c B : Nat) (l : List Int) (hn : l.length = n) (h2 : n ≤ 1000) (w : World) (hs : Seen w B 1 A n c (iv l)) :
    Calls Try.prog 68 #[.slice A n c, .func (.func 75) #[] #[]] w fun e w' => e = .returned (.bool (beyondR l)) ∧ w = w' := by
  have CI := Lib.hid (index_any A n c B l hn h2 w hs)
  clear hs hn
  go_enter Try.func68, Try.ntmps68
  go_wp2_with fail
  refine CI.out.mono ?_
  rintro e w2 ⟨rfl, k, rfl, hk⟩
  have HK := Lib.hid hk; clear hk
  go_wp2_with fail
  go_ret
  exact ⟨by rw [← HK.out]; rfl, rfl⟩

end Go.Proofs.Ytnnpiblnjflceaa
