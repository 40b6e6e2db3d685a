/-
  Days of months: within, Days, the document's Days. Conditions: none.
-/
import Derived.Test.YtdoclbgmbneggaaDoorProg
import Derived.Test.YtdoclbgmbneggaaDoorB
namespace Go.Proofs.YtdoclbgmbneggaaDoor
open Go.RowKit
set_option maxRecDepth 100000

/-- Is a number between two others? -/
def wi (n a b : Int) : Bool := decide (a ≤ n) && decide (n ≤ b)
theorem within_any (n a b : Int) (w : World) : Calls Tryd.prog 26 #[.int .i64 n, .int .i64 a, .int .i64 b] w fun e w' => e = .returned (.bool (wi n a b)) ∧ w = w' := by
  unfold wi
  obtain ⟨r, hr⟩ : ∃ r, decide (n ≤ b) = r := ⟨_, rfl⟩
  rw [hr]
  cases h1 : decide (a ≤ n)
  all_goals
    go_enter Tryd.func26, Tryd.ntmps26
    go_wp2_with fail
    go_ret
    exact ⟨rfl, rfl⟩

/-- How many days a month has. -/
def daysM (y m : Int) : Int := if 1980 ≤ y ∧ y ≤ 2107 ∧ 1 ≤ m ∧ m ≤ 12 then (if m = 2 then (if y % 4 = 0 ∧ y ≠ 2100 then 29 else 28) else if m = 4 ∨ m = 6 ∨ m = 9 ∨ m = 11 then 30 else 31) else 0
theorem daysM_le (y m : Int) : 0 ≤ daysM y m ∧ daysM y m ≤ 31 := by
  unfold daysM
  split
  · split
    · split <;> omega
    · split <;> omega
  · omega
theorem tmod4 {y : Int} (h : 0 ≤ y) : y.tmod 4 = y % 4 := Int.tmod_eq_emod_of_nonneg h

set_option maxHeartbeats 4000000 in
theorem days_any (y m : Int) (w : World) : Calls Tryd.prog 18 #[.int .i64 y, .int .i64 m] w fun e w' => e = .returned (.int .i64 (daysM y m)) ∧ w = w' := by
  have W1 := Lib.hid (fun W => within_any y 1980 2107 W)
  have W2 := Lib.hid (fun W => within_any m 1 12 W)
  by_cases hy : 1980 ≤ y ∧ y ≤ 2107
  · rw [show wi y 1980 2107 = true by simp [wi, hy.1, hy.2]] at W1
    have ht := tmod4 (y := y) (by omega)
    by_cases hm : 1 ≤ m ∧ m ≤ 12
    · rw [show wi m 1 12 = true by simp [wi, hm.1, hm.2]] at W2
      have hD : daysM y m = if m = 2 then (if y % 4 = 0 ∧ y ≠ 2100 then 29 else 28) else if m = 4 ∨ m = 6 ∨ m = 9 ∨ m = 11 then 30 else 31 := by unfold daysM; rw [if_pos ⟨hy.1, hy.2, hm.1, hm.2⟩]
      rw [hD]
      have hc : m = 1 ∨ m = 2 ∨ m = 3 ∨ m = 4 ∨ m = 5 ∨ m = 6 ∨ m = 7 ∨ m = 8 ∨ m = 9 ∨ m = 10 ∨ m = 11 ∨ m = 12 := by omega
      clear hD hm
      rcases hc with rfl | rfl | rfl | rfl | rfl | rfl | rfl | rfl | rfl | rfl | rfl | rfl
      case inr.inl =>
        by_cases h4 : y % 4 = 0
        · have h4' : (y.tmod 4 == 0) = true := by rw [ht, h4]; rfl
          have h4'' : y.tmod 4 = 0 := by rw [ht, h4]
          by_cases h2 : y = 2100
          · subst h2
            go_enter Tryd.func18, Tryd.ntmps18
            go_wp2_with fail
            refine (W1.out _).mono ?_; rintro e _ ⟨rfl, rfl⟩
            go_wp2_with fail
            refine (W2.out _).mono ?_; rintro e _ ⟨rfl, rfl⟩
            go_wp2_with fail
            go_ret
            exact ⟨rfl, rfl⟩
          · have hn : (y != 2100) = true := by simpa using h2
            have hv : (if (2 : Int) = 2 then (if y % 4 = 0 ∧ y ≠ 2100 then (29 : Int) else 28) else if (2 : Int) = 4 ∨ (2 : Int) = 6 ∨ (2 : Int) = 9 ∨ (2 : Int) = 11 then 30 else 31) = 29 := by simp [h4, h2]
            rw [hv]
            clear hv
            go_enter Tryd.func18, Tryd.ntmps18
            go_wp2_with fail
            refine (W1.out _).mono ?_; rintro e _ ⟨rfl, rfl⟩
            go_wp2_with fail
            refine (W2.out _).mono ?_; rintro e _ ⟨rfl, rfl⟩
            go_wp2_with fail
            go_ret
            exact ⟨rfl, rfl⟩
        · have h4' : (y.tmod 4 == 0) = false := by rw [ht]; simpa using h4
          have hv : (if (2 : Int) = 2 then (if y % 4 = 0 ∧ y ≠ 2100 then (29 : Int) else 28) else if (2 : Int) = 4 ∨ (2 : Int) = 6 ∨ (2 : Int) = 9 ∨ (2 : Int) = 11 then 30 else 31) = 28 := by simp [h4]
          rw [hv]
          clear hv
          go_enter Tryd.func18, Tryd.ntmps18
          go_wp2_with fail
          refine (W1.out _).mono ?_; rintro e _ ⟨rfl, rfl⟩
          go_wp2_with fail
          refine (W2.out _).mono ?_; rintro e _ ⟨rfl, rfl⟩
          go_wp2_with fail
          go_ret
          exact ⟨rfl, rfl⟩
      all_goals
        go_enter Tryd.func18, Tryd.ntmps18
        go_wp2_with fail
        refine (W1.out _).mono ?_; rintro e _ ⟨rfl, rfl⟩
        go_wp2_with fail
        refine (W2.out _).mono ?_; rintro e _ ⟨rfl, rfl⟩
        go_wp2_with fail
        go_ret
        exact ⟨rfl, rfl⟩
    · rw [show wi m 1 12 = false by unfold wi; rw [Bool.and_eq_false_iff]; simp; omega] at W2
      rw [show daysM y m = 0 by unfold daysM; rw [if_neg (by omega)]]
      clear ht hm hy
      go_enter Tryd.func18, Tryd.ntmps18
      go_wp2_with fail
      refine (W1.out _).mono ?_; rintro e _ ⟨rfl, rfl⟩
      go_wp2_with fail
      refine (W2.out _).mono ?_; rintro e _ ⟨rfl, rfl⟩
      go_wp2_with fail
      go_ret
      exact ⟨rfl, rfl⟩
  · rw [show wi y 1980 2107 = false by unfold wi; rw [Bool.and_eq_false_iff]; simp; omega] at W1
    rw [show daysM y m = 0 by unfold daysM; rw [if_neg (by omega)]]
    clear hy
    go_enter Tryd.func18, Tryd.ntmps18
    go_wp2_with (go_at_call 26; refine (W1.out _).mono ?_; rintro e _ ⟨rfl, rfl⟩)
    go_ret
    exact ⟨rfl, rfl⟩

set_option maxHeartbeats 4000000 in
theorem refDays_any (y m : Int) (w : World) : Calls Tryd.prog 19 #[.int .i64 y, .int .i64 m] w fun e w' => e = .returned (.int .i64 (daysM y m)) ∧ Below w.heap.size w w' := by
  by_cases h1 : y < 1980
  · rw [show daysM y m = 0 by unfold daysM; rw [if_neg (by omega)]]
    have g1 : decide (y < 1980) = true := by simpa using h1
    go_enter Tryd.func19, Tryd.ntmps19
    go_wp2_with fail
    go_ret
    exact ⟨rfl, Below.refl _ _⟩
  have g1 : decide (y < 1980) = false := by simpa using h1
  by_cases h2 : 2107 < y
  · rw [show daysM y m = 0 by unfold daysM; rw [if_neg (by omega)]]
    have g2 : decide (2107 < y) = true := by simpa using h2
    go_enter Tryd.func19, Tryd.ntmps19
    go_wp2_with fail
    go_ret
    exact ⟨rfl, Below.refl _ _⟩
  have g2 : decide (2107 < y) = false := by simpa using h2
  by_cases h3 : m < 1
  · rw [show daysM y m = 0 by unfold daysM; rw [if_neg (by omega)]]
    have g3 : decide (m < 1) = true := by simpa using h3
    go_enter Tryd.func19, Tryd.ntmps19
    go_wp2_with fail
    go_ret
    exact ⟨rfl, Below.refl _ _⟩
  have g3 : decide (m < 1) = false := by simpa using h3
  by_cases h4 : 12 < m
  · rw [show daysM y m = 0 by unfold daysM; rw [if_neg (by omega)]]
    have g4 : decide (12 < m) = true := by simpa using h4
    go_enter Tryd.func19, Tryd.ntmps19
    go_wp2_with fail
    go_ret
    exact ⟨rfl, Below.refl _ _⟩
  have g4 : decide (12 < m) = false := by simpa using h4
  have hD : daysM y m = if m = 2 then (if y % 4 = 0 ∧ y ≠ 2100 then 29 else 28) else if m = 4 ∨ m = 6 ∨ m = 9 ∨ m = 11 then 30 else 31 := by unfold daysM; rw [if_pos (by omega)]
  rw [hD]
  have ht := tmod4 (y := y) (by omega)
  have hc : m = 1 ∨ m = 2 ∨ m = 3 ∨ m = 4 ∨ m = 5 ∨ m = 6 ∨ m = 7 ∨ m = 8 ∨ m = 9 ∨ m = 10 ∨ m = 11 ∨ m = 12 := by omega
  clear hD h1 h2 h3 h4 g3 g4
  rcases hc with rfl | rfl | rfl | rfl | rfl | rfl | rfl | rfl | rfl | rfl | rfl | rfl
  case inr.inl =>
    by_cases h4 : y % 4 = 0
    · have h4' : (y.tmod 4 == 0) = true := by rw [ht, h4]; rfl
      have h4'' : y.tmod 4 = 0 := by rw [ht, h4]
      by_cases h2 : y = 2100
      · subst h2
        go_enter Tryd.func19, Tryd.ntmps19
        go_wp2_with fail
        go_ret
        exact ⟨rfl, (Below.refl _ _).alloc (Nat.le_refl _) _⟩
      · have hn : (y != 2100) = true := by simpa using h2
        have hv : (if (2 : Int) = 2 then (if y % 4 = 0 ∧ y ≠ 2100 then (29 : Int) else 28) else if (2 : Int) = 4 ∨ (2 : Int) = 6 ∨ (2 : Int) = 9 ∨ (2 : Int) = 11 then 30 else 31) = 29 := by simp [h4, h2]
        rw [hv]
        clear hv
        go_enter Tryd.func19, Tryd.ntmps19
        go_wp2_with fail
        go_ret
        exact ⟨rfl, Below.refl _ _⟩
    · have h4' : (y.tmod 4 == 0) = false := by rw [ht]; simpa using h4
      have hv : (if (2 : Int) = 2 then (if y % 4 = 0 ∧ y ≠ 2100 then (29 : Int) else 28) else if (2 : Int) = 4 ∨ (2 : Int) = 6 ∨ (2 : Int) = 9 ∨ (2 : Int) = 11 then 30 else 31) = 28 := by simp [h4]
      rw [hv]
      clear hv
      go_enter Tryd.func19, Tryd.ntmps19
      go_wp2_with fail
      go_ret
      exact ⟨rfl, (Below.refl _ _).alloc (Nat.le_refl _) _⟩
  all_goals
    go_enter Tryd.func19, Tryd.ntmps19
    go_wp2_with fail
    go_ret
    exact ⟨rfl, (Below.refl _ _).alloc (Nat.le_refl _) _⟩
end Go.Proofs.YtdoclbgmbneggaaDoor
