/-
  The program's letters, and Name. Conditions: bytes; a text of at most a million bytes.
-/
import Derived.Test.YteadhiehhpafjaaDoorMG
namespace Go.Proofs.YteadhiehhpafjaaDoor
open Go.RowKit
set_option maxRecDepth 100000

theorem great_any (x : Nat) (w : World) : Calls Tryd.prog 47 #[.int .u8 x] w (Rets w (.bool (decide (65 ≤ x ∧ x ≤ 90)))) := by
  by_cases h1 : 65 ≤ x
  · by_cases h2 : x ≤ 90
    · have d1 : decide ((65 : Int) ≤ (x : Int)) = true := by rw [decide_eq_true_iff]; omega
      have d2 : decide ((x : Int) ≤ 90) = true := by rw [decide_eq_true_iff]; omega
      go_enter Tryd.func47, Tryd.ntmps47
      go_wp2
      go_ret
      exact ⟨by rw [decide_eq_true (show 65 ≤ x ∧ x ≤ 90 from ⟨h1, h2⟩), ← d2]; rfl, rfl⟩
    · have d1 : decide ((65 : Int) ≤ (x : Int)) = true := by rw [decide_eq_true_iff]; omega
      have d2 : decide ((x : Int) ≤ 90) = false := by rw [decide_eq_false_iff_not]; omega
      go_enter Tryd.func47, Tryd.ntmps47
      go_wp2
      go_ret
      exact ⟨by rw [decide_eq_false (show ¬ (65 ≤ x ∧ x ≤ 90) by omega), ← d2]; rfl, rfl⟩
  · have d1 : decide ((65 : Int) ≤ (x : Int)) = false := by rw [decide_eq_false_iff_not]; omega
    go_enter Tryd.func47, Tryd.ntmps47
    go_wp2
    go_ret
    exact ⟨by rw [decide_eq_false (show ¬ (65 ≤ x ∧ x ≤ 90) by omega)]; rfl, rfl⟩

theorem letter_any (x : Nat) (w : World) : Calls Tryd.prog 31 #[.int .u8 x] w (Rets w (.bool (letter x))) := by
  have G := Lib.hid (fun W => great_any x W)
  have hc : x < 48 ∨ (48 ≤ x ∧ x ≤ 57) ∨ (58 ≤ x ∧ x ≤ 64) ∨ (65 ≤ x ∧ x ≤ 90) ∨ (91 ≤ x ∧ x ≤ 96) ∨ (97 ≤ x ∧ x ≤ 122) ∨ 123 ≤ x := by omega
  rcases hc with hc | hc | hc | hc | hc | hc | hc
  · have hl : letter x = false := by unfold letter; rw [decide_eq_false_iff_not]; omega
    have hg : decide (65 ≤ x ∧ x ≤ 90) = false := by rw [decide_eq_false_iff_not]; omega
    rw [hl]
    rw [hg] at G
    have d1 : decide ((97 : Int) ≤ (x : Int)) = false := by rw [decide_eq_false_iff_not]; omega
    have d2 : decide ((x : Int) ≤ 122) = true := by rw [decide_eq_true_iff]; omega
    have d3 : decide ((48 : Int) ≤ (x : Int)) = false := by rw [decide_eq_false_iff_not]; omega
    have d4 : decide ((x : Int) ≤ 57) = true := by rw [decide_eq_true_iff]; omega
    clear hl hg hc
    go_enter Tryd.func31, Tryd.ntmps31
    go_wp2_with (go_at_call 47; refine (G.out _).mono ?_; rintro e w' ⟨rfl, rfl⟩)
    go_ret
    exact ⟨rfl, rfl⟩
  · have hl : letter x = true := by unfold letter; rw [decide_eq_true_iff]; omega
    have hg : decide (65 ≤ x ∧ x ≤ 90) = false := by rw [decide_eq_false_iff_not]; omega
    rw [hl]
    rw [hg] at G
    have d1 : decide ((97 : Int) ≤ (x : Int)) = false := by rw [decide_eq_false_iff_not]; omega
    have d2 : decide ((x : Int) ≤ 122) = true := by rw [decide_eq_true_iff]; omega
    have d3 : decide ((48 : Int) ≤ (x : Int)) = true := by rw [decide_eq_true_iff]; omega
    have d4 : decide ((x : Int) ≤ 57) = true := by rw [decide_eq_true_iff]; omega
    clear hl hg hc
    go_enter Tryd.func31, Tryd.ntmps31
    go_wp2_with (go_at_call 47; refine (G.out _).mono ?_; rintro e w' ⟨rfl, rfl⟩)
    go_ret
    exact ⟨rfl, rfl⟩
  · have hl : letter x = false := by unfold letter; rw [decide_eq_false_iff_not]; omega
    have hg : decide (65 ≤ x ∧ x ≤ 90) = false := by rw [decide_eq_false_iff_not]; omega
    rw [hl]
    rw [hg] at G
    have d1 : decide ((97 : Int) ≤ (x : Int)) = false := by rw [decide_eq_false_iff_not]; omega
    have d2 : decide ((x : Int) ≤ 122) = true := by rw [decide_eq_true_iff]; omega
    have d3 : decide ((48 : Int) ≤ (x : Int)) = true := by rw [decide_eq_true_iff]; omega
    have d4 : decide ((x : Int) ≤ 57) = false := by rw [decide_eq_false_iff_not]; omega
    clear hl hg hc
    go_enter Tryd.func31, Tryd.ntmps31
    go_wp2_with (go_at_call 47; refine (G.out _).mono ?_; rintro e w' ⟨rfl, rfl⟩)
    go_ret
    exact ⟨rfl, rfl⟩
  · have hl : letter x = true := by unfold letter; rw [decide_eq_true_iff]; omega
    have hg : decide (65 ≤ x ∧ x ≤ 90) = true := by rw [decide_eq_true_iff]; omega
    rw [hl]
    rw [hg] at G
    have d1 : decide ((97 : Int) ≤ (x : Int)) = false := by rw [decide_eq_false_iff_not]; omega
    have d2 : decide ((x : Int) ≤ 122) = true := by rw [decide_eq_true_iff]; omega
    have d3 : decide ((48 : Int) ≤ (x : Int)) = true := by rw [decide_eq_true_iff]; omega
    have d4 : decide ((x : Int) ≤ 57) = false := by rw [decide_eq_false_iff_not]; omega
    clear hl hg hc
    go_enter Tryd.func31, Tryd.ntmps31
    go_wp2_with (go_at_call 47; refine (G.out _).mono ?_; rintro e w' ⟨rfl, rfl⟩)
    go_ret
    exact ⟨rfl, rfl⟩
  · have hl : letter x = false := by unfold letter; rw [decide_eq_false_iff_not]; omega
    have hg : decide (65 ≤ x ∧ x ≤ 90) = false := by rw [decide_eq_false_iff_not]; omega
    rw [hl]
    rw [hg] at G
    have d1 : decide ((97 : Int) ≤ (x : Int)) = false := by rw [decide_eq_false_iff_not]; omega
    have d2 : decide ((x : Int) ≤ 122) = true := by rw [decide_eq_true_iff]; omega
    have d3 : decide ((48 : Int) ≤ (x : Int)) = true := by rw [decide_eq_true_iff]; omega
    have d4 : decide ((x : Int) ≤ 57) = false := by rw [decide_eq_false_iff_not]; omega
    clear hl hg hc
    go_enter Tryd.func31, Tryd.ntmps31
    go_wp2_with (go_at_call 47; refine (G.out _).mono ?_; rintro e w' ⟨rfl, rfl⟩)
    go_ret
    exact ⟨rfl, rfl⟩
  · have hl : letter x = true := by unfold letter; rw [decide_eq_true_iff]; omega
    have hg : decide (65 ≤ x ∧ x ≤ 90) = false := by rw [decide_eq_false_iff_not]; omega
    rw [hl]
    rw [hg] at G
    have d1 : decide ((97 : Int) ≤ (x : Int)) = true := by rw [decide_eq_true_iff]; omega
    have d2 : decide ((x : Int) ≤ 122) = true := by rw [decide_eq_true_iff]; omega
    have d3 : decide ((48 : Int) ≤ (x : Int)) = true := by rw [decide_eq_true_iff]; omega
    have d4 : decide ((x : Int) ≤ 57) = false := by rw [decide_eq_false_iff_not]; omega
    clear hl hg hc
    go_enter Tryd.func31, Tryd.ntmps31
    go_wp2_with (go_at_call 47; refine (G.out _).mono ?_; rintro e w' ⟨rfl, rfl⟩)
    go_ret
    exact ⟨rfl, rfl⟩
  · have hl : letter x = false := by unfold letter; rw [decide_eq_false_iff_not]; omega
    have hg : decide (65 ≤ x ∧ x ≤ 90) = false := by rw [decide_eq_false_iff_not]; omega
    rw [hl]
    rw [hg] at G
    have d1 : decide ((97 : Int) ≤ (x : Int)) = true := by rw [decide_eq_true_iff]; omega
    have d2 : decide ((x : Int) ≤ 122) = false := by rw [decide_eq_false_iff_not]; omega
    have d3 : decide ((48 : Int) ≤ (x : Int)) = true := by rw [decide_eq_true_iff]; omega
    have d4 : decide ((x : Int) ≤ 57) = false := by rw [decide_eq_false_iff_not]; omega
    clear hl hg hc
    go_enter Tryd.func31, Tryd.ntmps31
    go_wp2_with (go_at_call 47; refine (G.out _).mono ?_; rintro e w' ⟨rfl, rfl⟩)
    go_ret
    exact ⟨rfl, rfl⟩

/-- The bytes of a text, each as a cell. -/
def u8s (l : List UInt8) : List Value := l.map fun u => .int .u8 u.toNat

end Go.Proofs.YteadhiehhpafjaaDoor
