/-
  Which word comes next among bits. Conditions: none. Nothing of the program stands here.
-/
import Derived.Test.YtnnpiblnjflceaaZ3
namespace Go.Proofs.Ytnnpiblnjflceaa

/-- What comes next: a word of n bits whose number is v; bits that are no word's beginning; the end. -/
inductive Look where
  | found (n v : Nat)
  | code
  | fin

/-- k bits have been read, their number is v; they are no word. -/
def look (l : List Int) (bits : List Bool) : Nat → Nat → Nat → Look
  | 0, _, _ => .code
  | f + 1, k, v =>
    if words l ≤ bas l (k + 1) then .code
    else match bits[k]? with
      | none => .fin
      | some b => if 2 * v + b.toNat < upTo l (k + 1) then .found (k + 1) (2 * v + b.toNat) else look l bits f (k + 1) (2 * v + b.toNat)
def lookup (l : List Int) (bits : List Bool) : Look := look l bits 16 0 0

theorem look_code {l : List Int} {bits : List Bool} {f k v : Nat} (h : words l ≤ bas l (k + 1)) : look l bits (f + 1) k v = .code := by simp only [look]; rw [if_pos h]
theorem look_fin {l : List Int} {bits : List Bool} {f k v : Nat} (h : ¬ words l ≤ bas l (k + 1)) (hb : bits.length ≤ k) : look l bits (f + 1) k v = .fin := by
  simp only [look]; rw [if_neg h, List.getElem?_eq_none hb]
theorem look_step {l : List Int} {bits : List Bool} {f k v : Nat} (h : ¬ words l ≤ bas l (k + 1)) (hb : k < bits.length) :
    look l bits (f + 1) k v = if 2 * v + bits[k].toNat < upTo l (k + 1) then .found (k + 1) (2 * v + bits[k].toNat) else look l bits f (k + 1) (2 * v + bits[k].toNat) := by
  simp only [look]; rw [if_neg h, List.getElem?_eq_getElem hb]

/-- The sign of a word's number. -/
theorem sign_of {l : List Int} (h : kindOf l ≠ 0) (n v : Nat) (h1 : fst l n ≤ v) (h2 : v < upTo l n) : ∃ j, j < l.length ∧ len l j = n ∧ n ≠ 0 ∧ wv l j = v ∧ pos l j = bas l n + (v - fst l n) := by
  obtain ⟨j, hj, a, b, c⟩ := ct_found n l (v - fst l n) (by unfold upTo at h2; omega)
  have e : len l j = n := by
    have := len_eq (right_ok h) j hj
    omega
  exact ⟨j, hj, e, b, by unfold wv; rw [e, c]; omega, by unfold pos; rw [e, c]⟩

theorem hi_take (k d v : Nat) : (hi (k + d) v).take k = hi k (v / 2 ^ d) := by
  induction d generalizing v with
  | zero => rw [List.take_of_length_le (by simp)]; simp
  | succ d ih =>
    rw [← Nat.add_assoc, hi_snoc, List.take_append_of_le_length (by simp), ih, Nat.pow_succ, Nat.mul_comm, Nat.div_div_eq_div_mul]
theorem pow_le15 {k : Nat} (h : k ≤ 15) : 2 ^ k ≤ 32768 := Nat.pow_le_pow_right (n := 2) (i := k) (j := 15) (by omega) h

theorem ct_ones (l : List Int) : ct 1 l = ones l := by
  induction l with
  | nil => rfl
  | cons x l ih => simp only [ct, ones, ih]; simp
theorem word_some (l : List Int) (hok : Ok l) (h : 0 < words l) : ∃ j, j < l.length ∧ 0 < len l j := by
  induction l with
  | nil => simp [words] at h
  | cons x l ih =>
    by_cases hx : x = 0
    · obtain ⟨j, a, b⟩ := ih (fun y hy => hok y (List.mem_cons_of_mem _ hy)) (by simpa [words, hx] using h)
      exact ⟨j + 1, by simpa using a, by simpa [len] using b⟩
    · have := hok x List.mem_cons_self
      exact ⟨0, by simp, by simp [len]; omega⟩

/-- Bits that are no word, while there are longer words: a longer one begins with them. -/
theorem cover {l : List Int} (h : kindOf l ≠ 0) (k v : Nat) (hk : k ≤ 15) (hv : v < 2 ^ k) (hu : upTo l k ≤ v) (hw : bas l (k + 1) < words l) :
    ∃ j, j < l.length ∧ k < len l j ∧ (wb l j).take k = hi k v := by
  have hok := right_ok h
  have h3 := h
  unfold kindOf at h3
  rw [if_pos hok] at h3
  split at h3
  · omega
  · split at h3
    · next h4 h5 =>
      -- one word alone, of one bit
      have hb : bas l (k + 1) = 0 := by omega
      have h6 : k = 0 := by
        rcases Nat.eq_zero_or_pos k with h6 | h6
        · exact h6
        · exfalso
          have h7 := bas_mono l (show 2 ≤ k + 1 by omega)
          have h8 := (words_one l hok h5.1).1.1 h5.2
          have h9 := ct_ones l
          have h10 : bas l 2 = bas l 1 + ct 1 l := rfl
          omega
      subst h6
      obtain ⟨j, a, b⟩ := word_some l hok (by omega)
      exact ⟨j, a, b, by simp [hi_zero]⟩
    · split at h3
      · next h4 h5 h6 =>
        have h7 := upTo_pw l 15 (Nat.le_refl _)
        rw [pw_all l hok, h6] at h7
        -- the least length at which the words go beyond those bits
        have key : ∀ d, k + d ≤ 15 → (∃ j, j < l.length ∧ k < len l j ∧ (wb l j).take k = hi k v) ∨ upTo l (k + d) ≤ v * 2 ^ d := by
          intro d
          induction d with
          | zero => intro _; exact .inr (by simpa using hu)
          | succ d ih =>
            intro hd
            rcases ih (by omega) with ih | ih
            · exact .inl ih
            · by_cases hx : upTo l (k + (d + 1)) ≤ v * 2 ^ (d + 1)
              · exact .inr hx
              · left
                have e1 : fst l (k + (d + 1)) = 2 * upTo l (k + d) := rfl
                have e2 : v * 2 ^ (d + 1) = 2 * (v * 2 ^ d) := by rw [Nat.pow_succ]; rw [← Nat.mul_assoc, Nat.mul_comm]
                obtain ⟨j, a, b, c, e, _⟩ := sign_of h (k + (d + 1)) (v * 2 ^ (d + 1)) (by omega) (by omega)
                refine ⟨j, a, by omega, ?_⟩
                unfold wb
                rw [b, e, hi_take, Nat.mul_div_cancel _ (Nat.two_pow_pos _)]
        rcases key (15 - k) (by omega) with h8 | h8
        · exact h8
        · exfalso
          rw [show k + (15 - k) = 15 by omega] at h8
          have h9 : v * 2 ^ (15 - k) < 2 ^ k * 2 ^ (15 - k) := Nat.mul_lt_mul_of_pos_right hv (Nat.two_pow_pos _)
          rw [← Nat.pow_add, show k + (15 - k) = 15 by omega] at h9
          simp at h7
          omega
      · exact absurd rfl h3
/-- A longer word is beyond those of at most k bits. -/
theorem longer {l : List Int} (h : Ok l) (k j : Nat) (hj : j < l.length) (hk : k < len l j) : bas l (k + 1) < words l := by
  have h1 := pos_lt h j hj (by omega)
  have h2 := bas_mono l (show k + 1 ≤ len l j by omega)
  unfold pos at h1
  omega
theorem look_found {l : List Int} {bits : List Bool} {n u : Nat} : ∀ f k v, upTo l k ≤ v → hi k v = bits.take k → look l bits f k v = .found n u →
    k < n ∧ n ≤ bits.length ∧ fst l n ≤ u ∧ u < upTo l n ∧ hi n u = bits.take n
  | 0, k, v, _, _, h => by simp [look] at h
  | f + 1, k, v, h1, h2, h => by
    by_cases hw : words l ≤ bas l (k + 1)
    · rw [look_code hw] at h; cases h
    · by_cases hb : k < bits.length
      · have e : hi (k + 1) (2 * v + bits[k].toNat) = bits.take (k + 1) := by rw [hi_bit, h2, take_snoc bits k hb]
        rw [look_step hw hb] at h
        split at h
        · next h3 =>
          injection h with h4 h5
          subst h4 h5
          have : fst l (k + 1) = 2 * upTo l k := rfl
          exact ⟨by omega, by omega, by omega, h3, e⟩
        · next h3 =>
          have := look_found f (k + 1) _ (by omega) e h
          exact ⟨by omega, this.2⟩
      · rw [look_fin hw (by omega)] at h; cases h
theorem lookup_found {l : List Int} {bits : List Bool} {n u : Nat} (h : lookup l bits = .found n u) : n ≤ bits.length ∧ fst l n ≤ u ∧ u < upTo l n ∧ hi n u = bits.take n :=
  (look_found 16 0 0 (by rw [upTo_zero]; exact Nat.le_refl _) (by rw [hi_zero]; rfl) h).2
end Go.Proofs.Ytnnpiblnjflceaa
