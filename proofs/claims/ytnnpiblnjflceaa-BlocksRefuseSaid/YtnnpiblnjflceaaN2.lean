/-
  Plain mathematics of bits: filling up, and what puts write. Conditions: none. Nothing of the program stands here.
-/
import Derived.Test.YtnnpiblnjflceaaN
namespace Go.Proofs.Ytnnpiblnjflceaa
/-- Filled up to a whole byte. -/
def padTo (l : List Bool) : List Bool := l ++ List.replicate ((8 - l.length % 8) % 8) false

theorem num_zeros (n : Nat) : num (List.replicate n false) = 0 := by
  induction n with
  | zero => rfl
  | succ n ih => simp [List.replicate_succ, num, ih]

theorem pack_pad (l : List Bool) : pack (padTo l) = pack l := by
  unfold padTo
  by_cases h : l.length % 8 = 0
  · simp [h]
  · rw [pack_more l _ (by simp; omega) (by simp; omega), num_zeros, Nat.mul_zero, Nat.add_zero]
    have := pack_full l
    rw [if_neg h] at this
    exact this

theorem padTo_length (l : List Bool) : (padTo l).length = 8 * ((l.length + 7) / 8) := by
  simp [padTo]; omega

theorem pad_step (l : List Bool) (j : Nat) (h : (l ++ List.replicate j false).length % 8 ≠ 0) (hj : j ≤ (8 - l.length % 8) % 8) : j + 1 ≤ (8 - l.length % 8) % 8 := by
  simp at h; omega
theorem pad_end (l : List Bool) (j : Nat) (h : (l ++ List.replicate j false).length % 8 = 0) (hj : j ≤ (8 - l.length % 8) % 8) : l ++ List.replicate j false = padTo l := by
  simp at h
  unfold padTo
  rw [show j = (8 - l.length % 8) % 8 by omega]

/-- What the first k puts write, aligned where asked. -/
def wroteA (V : Nat → Nat) (K : Nat → Int) (Al : Nat → Bool) : Nat → List Bool
  | 0 => []
  | k + 1 => (if Al k then padTo (wroteA V K Al k) else wroteA V K Al k) ++ (if 0 ≤ K k ∧ K k ≤ 32 then bitsOf (V k) (K k).toNat else [])

theorem padTo_le (l : List Bool) : (padTo l).length ≤ l.length + 7 := by
  simp [padTo]; omega

theorem wroteA_length (V : Nat → Nat) (K : Nat → Int) (Al : Nat → Bool) (k : Nat) : (wroteA V K Al k).length ≤ 39 * k := by
  induction k with
  | zero => simp [wroteA]
  | succ k ih =>
    have h1 := padTo_le (wroteA V K Al k)
    have h2 : (if Al k then padTo (wroteA V K Al k) else wroteA V K Al k).length ≤ 39 * k + 7 := by split <;> omega
    have h3 : (if 0 ≤ K k ∧ K k ≤ 32 then bitsOf (V k) (K k).toNat else []).length ≤ 32 := by split <;> simp <;> omega
    simp only [wroteA, List.length_append]
    omega
end Go.Proofs.Ytnnpiblnjflceaa
