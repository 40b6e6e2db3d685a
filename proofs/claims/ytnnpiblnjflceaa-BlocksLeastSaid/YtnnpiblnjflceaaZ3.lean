/-
  The signs that have words, in the words' order. Conditions: none. Nothing of the program stands here.
-/
import Derived.Test.YtnnpiblnjflceaaZ2
namespace Go.Proofs.Ytnnpiblnjflceaa

/-- A sign's place among all words. -/
def pos (l : List Int) (j : Nat) : Nat := bas l (len l j) + ct (len l j) (l.take j)
/-- The row of signs, when the first k signs have been looked at. -/
def sg (l : List Int) : Nat → Nat → Nat
  | 0, _ => 0
  | k + 1, p => if len l k ≠ 0 ∧ p = pos l k then k else sg l k p

theorem pos_lt {l : List Int} (h : Ok l) (j : Nat) (hj : j < l.length) (h0 : len l j ≠ 0) : pos l j < words l := by
  have h1 := ct_take_self (len l j) l j hj (len_eq h j hj) h0
  have h2 := len_le h j
  have h3 := bas_mono l (show len l j + 1 ≤ 16 by omega)
  rw [bas_words l h] at h3
  simp only [bas] at h3
  unfold pos
  omega
theorem pos_inj {l : List Int} (h : Ok l) (i j : Nat) (hi : i < l.length) (hj : j < l.length) (hi0 : len l i ≠ 0) (hj0 : len l j ≠ 0) (he : pos l i = pos l j) : i = j := by
  have a := ct_take_self (len l i) l i hi (len_eq h i hi) hi0
  have b := ct_take_self (len l j) l j hj (len_eq h j hj) hj0
  unfold pos at he
  rcases Nat.lt_trichotomy (len l i) (len l j) with h1 | h1 | h1
  · have := bas_mono l (show len l i + 1 ≤ len l j by omega)
    simp only [bas] at this
    omega
  · rw [h1] at he
    exact ct_inj (len l j) l i j hi hj hj0 (by rw [← h1]; exact len_eq h i hi) (len_eq h j hj) (by omega)
  · have := bas_mono l (show len l j + 1 ≤ len l i by omega)
    simp only [bas] at this
    omega
theorem sg_at {l : List Int} (h : Ok l) : ∀ k, k ≤ l.length → ∀ j, j < k → len l j ≠ 0 → sg l k (pos l j) = j
  | 0, _, j, hj, _ => absurd hj (Nat.not_lt_zero _)
  | k + 1, hk, j, hj, h0 => by
    simp only [sg]
    by_cases hjk : j = k
    · subst hjk; rw [if_pos ⟨h0, rfl⟩]
    · rw [if_neg, sg_at h k (by omega) j (by omega) h0]
      rintro ⟨h1, h2⟩
      exact hjk (pos_inj h j k (by omega) (by omega) h0 h1 h2)
theorem sg_lt (l : List Int) : ∀ k p, sg l k p ≤ k
  | 0, _ => Nat.le_refl _
  | k + 1, p => by
    simp only [sg]
    split
    · omega
    · have := sg_lt l k p; omega
end Go.Proofs.Ytnnpiblnjflceaa
