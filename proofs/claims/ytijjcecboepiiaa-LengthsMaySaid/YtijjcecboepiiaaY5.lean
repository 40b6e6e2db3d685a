/-
  The least cost of whole lengths, by trying all. Conditions: none. Nothing of the program stands here.
-/
import Derived.Test.YtijjcecboepiiaaY3
namespace Go.Proofs.Ytijjcecboepiiaa

/-- The least of the first k lengths of a sign, if the others' least is told by f. -/
def tryL (x : Nat) (f : Nat → Int) (used : Nat) : Nat → Int
  | 0 => -1
  | k + 1 => if used + 2 ^ (15 - (k + 1)) ≤ 32768 ∧ 0 ≤ f (used + 2 ^ (15 - (k + 1))) ∧ (tryL x f used k < 0 ∨ f (used + 2 ^ (15 - (k + 1))) + x * (k + 1 : Nat) < tryL x f used k) then f (used + 2 ^ (15 - (k + 1))) + x * (k + 1 : Nat) else tryL x f used k
def tryF (most : Nat) : List Nat → Nat → Int
  | [], used => if used = 32768 then 0 else -1
  | x :: xs, used => tryL x (tryF most xs) used most

theorem tryL_ge (x : Nat) (f : Nat → Int) (used : Nat) : ∀ k, -1 ≤ tryL x f used k
  | 0 => by simp [tryL]
  | k + 1 => by
    simp only [tryL]
    split
    · next h =>
      have : (0 : Int) ≤ x * (k + 1 : Nat) := Int.mul_nonneg (by omega) (by omega)
      omega
    · exact tryL_ge x f used k
theorem tryF_ge (most : Nat) (xs : List Nat) (used : Nat) : -1 ≤ tryF most xs used := by
  cases xs with
  | nil => simp only [tryF]; split <;> omega
  | cons x xs => exact tryL_ge _ _ _ _
theorem tryL_le (x C : Nat) (hx : x ≤ 16777216) (f : Nat → Int) (hf : ∀ u, f u ≤ C) (used : Nat) : ∀ k, k ≤ 15 → tryL x f used k ≤ (C + 251658240 : Nat)
  | 0, _ => by simp only [tryL]; omega
  | k + 1, hk => by
    simp only [tryL]
    split
    · have h1 := hf (used + 2 ^ (15 - (k + 1)))
      have h2 : ((x : Int) * (k + 1 : Nat)) ≤ 251658240 := by
        have : x * (k + 1) ≤ 16777216 * 15 := Nat.mul_le_mul hx hk
        have e : ((x : Int) * (k + 1 : Nat)) = ((x * (k + 1) : Nat) : Int) := by simp
        rw [e]; omega
      omega
    · exact tryL_le x C hx f hf used k (by omega)
theorem tryF_le (most : Nat) (hm : most ≤ 15) : ∀ (xs : List Nat) (used : Nat), (∀ x ∈ xs, x ≤ 16777216) → tryF most xs used ≤ (251658240 * xs.length : Nat)
  | [], used, _ => by simp only [tryF]; split <;> simp
  | x :: xs, used, h => by
    have := tryL_le x (251658240 * xs.length) (h x (by simp)) (tryF most xs) (fun u => tryF_le most hm xs u (fun y hy => h y (by simp [hy]))) used most hm
    simp only [tryF, List.length_cons]
    omega

/-- Lengths that fill up what is left. -/
def Fills (most used : Nat) (zs : List (Nat × Nat)) : Prop := (∀ z ∈ zs, 1 ≤ z.2 ∧ z.2 ≤ most) ∧ used + wide zs = 32768
theorem wide_cons (z : Nat × Nat) (zs : List (Nat × Nat)) : wide (z :: zs) = 2 ^ (15 - z.2) + wide zs := by simp [wide]
theorem dot_cons (z : Nat × Nat) (zs : List (Nat × Nat)) : dot (z :: zs) = z.1 * z.2 + dot zs := by simp [dot]

theorem tryL_low (x : Nat) (f : Nat → Int) (used : Nat) : ∀ k l, 1 ≤ l → l ≤ k → used + 2 ^ (15 - l) ≤ 32768 → 0 ≤ f (used + 2 ^ (15 - l)) → 0 ≤ tryL x f used k ∧ tryL x f used k ≤ f (used + 2 ^ (15 - l)) + x * (l : Nat)
  | 0, l, h1, h2, _, _ => by omega
  | k + 1, l, h1, h2, h3, h4 => by
    simp only [tryL]
    have hx : (0 : Int) ≤ x * (k + 1 : Nat) := Int.mul_nonneg (by omega) (by omega)
    rcases Nat.lt_or_ge l (k + 1) with h | h
    · have ih := tryL_low x f used k l h1 (by omega) h3 h4
      split
      · next h5 => exact ⟨by omega, by omega⟩
      · exact ih
    · obtain rfl : l = k + 1 := by omega
      split
      · exact ⟨by omega, by omega⟩
      · next h5 =>
        have : ¬ (tryL x f used k < 0 ∨ f (used + 2 ^ (15 - (k + 1))) + x * (k + 1 : Nat) < tryL x f used k) := fun h => h5 ⟨h3, h4, h⟩
        omega
theorem tryL_hit (x : Nat) (f : Nat → Int) (used : Nat) : ∀ k, 0 ≤ tryL x f used k → ∃ l, 1 ≤ l ∧ l ≤ k ∧ used + 2 ^ (15 - l) ≤ 32768 ∧ 0 ≤ f (used + 2 ^ (15 - l)) ∧ tryL x f used k = f (used + 2 ^ (15 - l)) + x * (l : Nat)
  | 0, h => by simp [tryL] at h
  | k + 1, h => by
    simp only [tryL] at h ⊢
    split
    · next h5 => exact ⟨k + 1, by omega, by omega, h5.1, h5.2.1, rfl⟩
    · next h5 =>
      rw [if_neg h5] at h
      obtain ⟨l, a, b, c⟩ := tryL_hit x f used k h
      exact ⟨l, a, by omega, c⟩

theorem tryF_low (most : Nat) : ∀ (zs : List (Nat × Nat)) (used : Nat), Fills most used zs → 0 ≤ tryF most (zs.map (·.1)) used ∧ tryF most (zs.map (·.1)) used ≤ (dot zs : Nat)
  | [], used, h => by
    have h2 := h.2
    simp [wide] at h2
    subst h2
    simp [tryF, dot]
  | z :: zs, used, h => by
    have hz := h.1 z (by simp)
    have h2 := h.2
    rw [wide_cons] at h2
    have ih := tryF_low most zs (used + 2 ^ (15 - z.2)) ⟨fun y hy => h.1 y (by simp [hy]), by omega⟩
    have := tryL_low z.1 (tryF most (zs.map (·.1))) used most z.2 hz.1 hz.2 (by omega) ih.1
    simp only [List.map_cons, tryF]
    rw [dot_cons]
    have e : (((z.1 * z.2 + dot zs : Nat)) : Int) = (z.1 : Int) * (z.2 : Nat) + (dot zs : Nat) := by simp
    rw [e]
    exact ⟨this.1, by omega⟩
theorem tryF_hit (most : Nat) : ∀ (xs : List Nat) (used : Nat), 0 ≤ tryF most xs used → ∃ zs : List (Nat × Nat), zs.map (·.1) = xs ∧ Fills most used zs ∧ tryF most xs used = (dot zs : Nat)
  | [], used, h => by
    simp only [tryF] at h ⊢
    by_cases hu : used = 32768
    · subst hu
      exact ⟨[], rfl, ⟨by simp, by simp [wide]⟩, by simp [dot]⟩
    · rw [if_neg hu] at h; omega
  | x :: xs, used, h => by
    obtain ⟨l, h1, h2, h3, h4, h5⟩ := tryL_hit x (tryF most xs) used most h
    obtain ⟨zs, e1, e2, e3⟩ := tryF_hit most xs (used + 2 ^ (15 - l)) h4
    refine ⟨(x, l) :: zs, by simp [e1], ⟨?_, ?_⟩, ?_⟩
    · intro z hz
      rcases List.mem_cons.1 hz with rfl | hz
      · exact ⟨h1, h2⟩
      · exact e2.1 z hz
    · rw [wide_cons]
      have := e2.2
      simp only
      omega
    · simp only [tryF]
      rw [h5, e3, dot_cons]
      simp
      omega
/-- The least is what no others cost less than. -/
theorem tryF_eq (most : Nat) (xs : List Nat) (zs : List (Nat × Nat)) (hz : zs.map (·.1) = xs) (hf : Fills most 0 zs) (hl : ∀ ys : List (Nat × Nat), ys.map (·.1) = xs → Fills most 0 ys → dot zs ≤ dot ys) : tryF most xs 0 = (dot zs : Nat) := by
  have h1 := tryF_low most zs 0 hf
  rw [hz] at h1
  obtain ⟨ys, e1, e2, e3⟩ := tryF_hit most xs 0 h1.1
  have := hl ys e1 e2
  omega
end Go.Proofs.Ytijjcecboepiiaa
