/-
  Lengths of a code: their weight, how many words, what they make. Conditions: none. Nothing of the program stands here.
-/
import Derived.WalkKit
namespace Go.Proofs.Ytnnpiblnjflceaa

def Ok (l : List Int) : Prop := ∀ x ∈ l, 0 ≤ x ∧ x ≤ 15
instance (l : List Int) : Decidable (Ok l) := by unfold Ok; exact inferInstance
def wt (x : Int) : Nat := if x = 0 then 0 else 2 ^ (15 - x.toNat)
def weight : List Int → Nat
  | [] => 0
  | x :: l => wt x + weight l
def words : List Int → Nat
  | [] => 0
  | x :: l => (if x = 0 then 0 else 1) + words l
def ones : List Int → Nat
  | [] => 0
  | x :: l => (if x = 1 then 1 else 0) + ones l
def kindOf (l : List Int) : Nat :=
  if Ok l then (if words l = 0 then 1 else if words l = 1 ∧ weight l = 16384 then 2 else if weight l = 32768 then 3 else 0) else 0

theorem weight_append (a b : List Int) : weight (a ++ b) = weight a + weight b := by
  induction a with
  | nil => simp [weight]
  | cons x a ih => simp [weight, ih]; omega
theorem words_append (a b : List Int) : words (a ++ b) = words a + words b := by
  induction a with
  | nil => simp [words]
  | cons x a ih => simp [words, ih]; omega
theorem ones_append (a b : List Int) : ones (a ++ b) = ones a + ones b := by
  induction a with
  | nil => simp [ones]
  | cons x a ih => simp [ones, ih]; omega
theorem take_snoc {α : Type} (l : List α) (k : Nat) (h : k < l.length) : l.take (k + 1) = l.take k ++ [l[k]] := by
  rw [List.take_add_one, List.getElem?_eq_getElem h]; rfl
theorem weight_take (l : List Int) (k : Nat) (h : k < l.length) : weight (l.take (k + 1)) = weight (l.take k) + wt l[k] := by
  rw [take_snoc l k h, weight_append]; simp [weight]
theorem words_take (l : List Int) (k : Nat) (h : k < l.length) : words (l.take (k + 1)) = words (l.take k) + (if l[k] = 0 then 0 else 1) := by
  rw [take_snoc l k h, words_append]; simp [words]
theorem ones_take (l : List Int) (k : Nat) (h : k < l.length) : ones (l.take (k + 1)) = ones (l.take k) + (if l[k] = 1 then 1 else 0) := by
  rw [take_snoc l k h, ones_append]; simp [ones]
theorem ok_take (l : List Int) (k : Nat) (h : k < l.length) : Ok (l.take (k + 1)) ↔ Ok (l.take k) ∧ 0 ≤ l[k] ∧ l[k] ≤ 15 := by
  rw [take_snoc l k h]
  simp only [Ok, List.mem_append, List.mem_singleton]
  constructor
  · intro h
    exact ⟨fun x hx => h x (.inl hx), h _ (.inr rfl)⟩
  · rintro ⟨h1, h2⟩ x (hx | rfl)
    · exact h1 x hx
    · exact h2
theorem not_ok {l : List Int} {k : Nat} (h : k < l.length) (hx : ¬ (0 ≤ l[k] ∧ l[k] ≤ 15)) : ¬ Ok l := fun hl => hx (hl _ (List.getElem_mem h))
theorem weight_le_take (l : List Int) (k : Nat) : weight (l.take k) ≤ weight l := by
  conv => rhs; rw [← List.take_append_drop k l, weight_append]
  omega
theorem words_le (l : List Int) : words l ≤ l.length := by
  induction l with
  | nil => simp [words]
  | cons x l ih => simp only [words, List.length_cons]; split <;> omega
theorem ones_le (l : List Int) : ones l ≤ l.length := by
  induction l with
  | nil => simp [ones]
  | cons x l ih => simp only [ones, List.length_cons]; split <;> omega
theorem wt_le (x : Int) : wt x ≤ 32768 := by
  unfold wt
  split
  · omega
  · exact Nat.pow_le_pow_right (n := 2) (i := 15 - x.toNat) (j := 15) (by omega) (by omega)
theorem weight_le (l : List Int) : weight l ≤ 32768 * l.length := by
  induction l with
  | nil => simp [weight]
  | cons x l ih => simp only [weight, List.length_cons]; have := wt_le x; omega
theorem words_zero (l : List Int) (h : words l = 0) : weight l = 0 ∧ ones l = 0 := by
  induction l with
  | nil => simp [weight, ones]
  | cons x l ih =>
    simp only [words] at h
    split at h
    · next hx => subst hx; have := ih (by omega); simp [weight, ones, wt, this]
    · omega
theorem wt_one (x : Int) (h0 : 0 ≤ x) (h : x ≤ 15) : wt x = 16384 ↔ x = 1 := by
  obtain ⟨m, rfl⟩ := Int.eq_ofNat_of_zero_le h0
  have : m = 0 ∨ m = 1 ∨ m = 2 ∨ m = 3 ∨ m = 4 ∨ m = 5 ∨ m = 6 ∨ m = 7 ∨ m = 8 ∨ m = 9 ∨ m = 10 ∨ m = 11 ∨ m = 12 ∨ m = 13 ∨ m = 14 ∨ m = 15 := by omega
  rcases this with rfl | rfl | rfl | rfl | rfl | rfl | rfl | rfl | rfl | rfl | rfl | rfl | rfl | rfl | rfl | rfl <;> decide
theorem wt_lt (x : Int) (h0 : 0 ≤ x) : wt x ≤ 16384 := by
  unfold wt
  split
  · omega
  · exact Nat.pow_le_pow_right (n := 2) (i := 15 - x.toNat) (j := 14) (by omega) (by omega)
theorem words_one (l : List Int) (hl : Ok l) (h : words l = 1) : (weight l = 16384 ↔ ones l = 1) ∧ weight l ≤ 16384 := by
  induction l with
  | nil => simp [words] at h
  | cons x l ih =>
    have hl' : Ok l := fun y hy => hl y (List.mem_cons_of_mem _ hy)
    obtain ⟨hx0, hx1⟩ := hl x (List.mem_cons_self)
    simp only [words] at h
    split at h
    · next hx => subst hx; have := ih hl' (by omega); simpa [weight, ones, wt] using this
    · have := words_zero l (by omega)
      have hw := wt_one x hx0 hx1
      have hw2 := wt_lt x hx0
      simp only [weight, ones, this.1, this.2, Nat.add_zero]
      refine ⟨?_, hw2⟩
      rw [hw]
      split <;> simp_all
/-- Weight above the whole: wrong, whatever comes behind. -/
theorem kind_over (l : List Int) (k : Nat) (h : 32768 < weight (l.take k)) : kindOf l = 0 := by
  have h1 := weight_le_take l k
  unfold kindOf
  split
  · next hl =>
    rw [if_neg, if_neg, if_neg]
    · omega
    · rintro ⟨h2, h3⟩; omega
    · intro h2; have := (words_zero l h2).1; omega
  · rfl
/-- As the document says it. -/
theorem kind_doc (l : List Int) : kindOf l = if Ok l then (if words l = 0 then 1 else if words l = 1 ∧ ones l = 1 then 2 else if weight l = 32768 then 3 else 0) else 0 := by
  unfold kindOf
  by_cases hl : Ok l
  · simp only [hl, if_true]
    by_cases h0 : words l = 0
    · simp [h0]
    · by_cases h1 : words l = 1
      · have := words_one l hl h1
        simp only [h1, true_and, this.1]
      · simp [h1]
  · simp [hl]
end Go.Proofs.Ytnnpiblnjflceaa
