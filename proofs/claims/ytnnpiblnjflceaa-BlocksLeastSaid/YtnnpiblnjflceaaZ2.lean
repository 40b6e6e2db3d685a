/-
  Words of a code by its lengths: how many of each length, the first of each length, each sign's word, and that they fit. Conditions: none. Nothing of the program stands here.
-/
import Derived.Test.YtnnpiblnjflceaaZ1
import Derived.Test.YtnnpiblnjflceaaM
namespace Go.Proofs.Ytnnpiblnjflceaa

/-- How many words of n bits. -/
def ct (n : Nat) : List Int → Nat
  | [] => 0
  | x :: l => (if x = n ∧ n ≠ 0 then 1 else 0) + ct n l
/-- The first word of n bits. -/
def fst (l : List Int) : Nat → Nat
  | 0 => 0
  | n + 1 => 2 * (fst l n + ct n l)
/-- How many words of fewer bits. -/
def bas (l : List Int) : Nat → Nat
  | 0 => 0
  | n + 1 => bas l n + ct n l
def upTo (l : List Int) (n : Nat) : Nat := fst l n + ct n l
/-- The length of a sign's word; its word's number. -/
def len (l : List Int) (j : Nat) : Nat := (l.getD j 0).toNat
def wv (l : List Int) (j : Nat) : Nat := fst l (len l j) + ct (len l j) (l.take j)

theorem ct_zero (l : List Int) : ct 0 l = 0 := by
  induction l with
  | nil => rfl
  | cons x l ih => simp [ct, ih]
theorem ct_append (n : Nat) (a b : List Int) : ct n (a ++ b) = ct n a + ct n b := by
  induction a with
  | nil => simp [ct]
  | cons x a ih => simp [ct, ih]; omega
theorem ct_take (n : Nat) (l : List Int) (k : Nat) (h : k < l.length) : ct n (l.take (k + 1)) = ct n (l.take k) + (if l[k] = n ∧ n ≠ 0 then 1 else 0) := by
  rw [take_snoc l k h, ct_append]; simp [ct]
theorem ct_take_le (n : Nat) (l : List Int) (k : Nat) : ct n (l.take k) ≤ ct n l := by
  conv => rhs; rw [← List.take_append_drop k l, ct_append]
  omega
theorem ct_take_mono (n : Nat) (l : List Int) {i j : Nat} (h : i ≤ j) : ct n (l.take i) ≤ ct n (l.take j) := by
  have := ct_take_le n (l.take j) i
  rwa [List.take_take, Nat.min_eq_left h] at this
theorem ct_le (n : Nat) (l : List Int) : ct n l ≤ l.length := by
  induction l with
  | nil => simp [ct]
  | cons x l ih => simp only [ct, List.length_cons]; split <;> omega
theorem ct_take_self (n : Nat) (l : List Int) (j : Nat) (h : j < l.length) (hx : l[j] = n) (h0 : n ≠ 0) : ct n (l.take j) < ct n l := by
  have h1 := ct_take n l j h
  rw [if_pos ⟨hx, h0⟩] at h1
  have := ct_take_le n l (j + 1)
  omega
theorem ct_find (n : Nat) (l : List Int) (r : Nat) : ∀ k, k ≤ l.length → r < ct n (l.take k) → ∃ i, ∃ h : i < l.length, i < k ∧ l[i] = n ∧ n ≠ 0 ∧ ct n (l.take i) = r
  | 0, _, h => by simp [ct] at h
  | k + 1, hk, h => by
    have h1 := ct_take n l k (by omega)
    by_cases h2 : r < ct n (l.take k)
    · obtain ⟨i, hi, a, b⟩ := ct_find n l r k (by omega) h2
      exact ⟨i, hi, by omega, b⟩
    · split at h1
      · next h3 => exact ⟨k, by omega, by omega, h3.1, h3.2, by omega⟩
      · omega
theorem ct_found (n : Nat) (l : List Int) (r : Nat) (h : r < ct n l) : ∃ i, ∃ h : i < l.length, l[i] = n ∧ n ≠ 0 ∧ ct n (l.take i) = r := by
  obtain ⟨i, hi, _, b⟩ := ct_find n l r l.length (Nat.le_refl _) (by rwa [List.take_length])
  exact ⟨i, hi, b⟩
theorem ct_inj (n : Nat) (l : List Int) (i j : Nat) (hi : i < l.length) (hj : j < l.length) (h0 : n ≠ 0) (hx : l[i] = n) (hy : l[j] = n) (h : ct n (l.take i) = ct n (l.take j)) : i = j := by
  rcases Nat.lt_trichotomy i j with h1 | h1 | h1
  · have a := ct_take n l i hi
    have b := ct_take_mono n l (show i + 1 ≤ j by omega)
    rw [if_pos ⟨hx, h0⟩] at a
    omega
  · exact h1
  · have a := ct_take n l j hj
    have b := ct_take_mono n l (show j + 1 ≤ i by omega)
    rw [if_pos ⟨hy, h0⟩] at a
    omega

/-- The weight of the words of at most n bits. -/
def pw (n : Nat) : List Int → Nat
  | [] => 0
  | x :: l => (if 1 ≤ x ∧ x ≤ n then 2 ^ (15 - x.toNat) else 0) + pw n l
theorem pw_succ (n : Nat) (l : List Int) : pw (n + 1) l = pw n l + ct (n + 1) l * 2 ^ (15 - (n + 1)) := by
  induction l with
  | nil => simp [pw, ct]
  | cons x l ih =>
    simp only [pw, ct, ih, Nat.add_mul]
    by_cases h : x = ((n + 1 : Nat) : Int)
    · rw [if_pos (by omega), if_neg (by omega), if_pos ⟨h, by omega⟩, h, Int.toNat_natCast]
      omega
    · rw [if_neg (c := x = ((n + 1 : Nat) : Int) ∧ n + 1 ≠ 0) (by omega)]
      by_cases h2 : 1 ≤ x ∧ x ≤ n
      · rw [if_pos (by omega), if_pos h2]; omega
      · rw [if_neg (by omega), if_neg h2]; omega
theorem pw_zero (l : List Int) : pw 0 l = 0 := by
  induction l with
  | nil => rfl
  | cons x l ih => simp only [pw, ih]; rw [if_neg (by omega)]
theorem upTo_succ (l : List Int) (n : Nat) : upTo l (n + 1) = 2 * upTo l n + ct (n + 1) l := rfl
theorem upTo_zero (l : List Int) : upTo l 0 = 0 := by simp [upTo, fst, ct_zero]
theorem upTo_pw (l : List Int) : ∀ n, n ≤ 15 → upTo l n * 2 ^ (15 - n) = pw n l
  | 0, _ => by rw [upTo_zero, pw_zero, Nat.zero_mul]
  | n + 1, h => by
    rw [upTo_succ, pw_succ, ← upTo_pw l n (by omega), Nat.add_mul, show 15 - n = (15 - (n + 1)) + 1 by omega, Nat.pow_succ]
    generalize 2 ^ (15 - (n + 1)) = p
    rw [Nat.mul_comm 2, Nat.mul_assoc, Nat.mul_comm 2]
theorem pw_le (n : Nat) (l : List Int) (hl : Ok l) : pw n l ≤ weight l := by
  induction l with
  | nil => simp [pw, weight]
  | cons x l ih =>
    have hx := hl x List.mem_cons_self
    have := ih fun y hy => hl y (List.mem_cons_of_mem _ hy)
    simp only [pw, weight, wt]
    by_cases h : x = 0
    · subst h; simp; exact this
    · rw [if_neg h]; generalize 2 ^ (15 - x.toNat) = p; split <;> omega
theorem pw_all (l : List Int) (hl : Ok l) : pw 15 l = weight l := by
  induction l with
  | nil => rfl
  | cons x l ih =>
    have hx := hl x List.mem_cons_self
    simp only [pw, weight, wt, ih fun y hy => hl y (List.mem_cons_of_mem _ hy)]
    by_cases h : x = 0
    · subst h; simp
    · rw [if_neg h, if_pos (by omega)]
theorem right_ok {l : List Int} (h : kindOf l ≠ 0) : Ok l := by
  unfold kindOf at h
  split at h
  · assumption
  · exact absurd rfl h
theorem right_weight {l : List Int} (h : kindOf l ≠ 0) : weight l ≤ 32768 := by
  have hl := right_ok h
  unfold kindOf at h
  rw [if_pos hl] at h
  split at h
  · next h1 => have := (words_zero l h1).1; omega
  · split at h
    · omega
    · split at h
      · omega
      · exact absurd rfl h
theorem upTo_le {l : List Int} (h : kindOf l ≠ 0) (n : Nat) (hn : n ≤ 15) : upTo l n ≤ 2 ^ n := by
  have h1 := upTo_pw l n hn
  have h2 := pw_le n l (right_ok h)
  have h3 := right_weight h
  have h4 : upTo l n * 2 ^ (15 - n) ≤ 2 ^ n * 2 ^ (15 - n) := by
    rw [← Nat.pow_add, show n + (15 - n) = 15 by omega]
    omega
  exact Nat.le_of_mul_le_mul_right h4 (Nat.two_pow_pos _)
theorem len_le {l : List Int} (h : Ok l) (j : Nat) : len l j ≤ 15 := by
  unfold len
  by_cases hj : j < l.length
  · simp only [List.getD, List.getElem?_eq_getElem hj, Option.getD_some]
    have := h _ (List.getElem_mem hj)
    omega
  · simp [List.getD, List.getElem?_eq_none (Nat.le_of_not_lt hj)]
theorem len_eq {l : List Int} (h : Ok l) (j : Nat) (hj : j < l.length) : l[j] = (len l j : Int) := by
  simp only [len, List.getD, List.getElem?_eq_getElem hj, Option.getD_some]
  have := h _ (List.getElem_mem hj)
  omega
theorem wv_none (l : List Int) (j : Nat) (h : len l j = 0) : wv l j = 0 := by simp [wv, h, fst, ct_zero]
theorem wv_lt {l : List Int} (h : kindOf l ≠ 0) (j : Nat) (hj : j < l.length) (h0 : len l j ≠ 0) : wv l j < upTo l (len l j) := by
  have := ct_take_self (len l j) l j hj (len_eq (right_ok h) j hj) h0
  unfold wv upTo
  omega
theorem wv_small {l : List Int} (h : kindOf l ≠ 0) (j : Nat) (hj : j < l.length) : wv l j < 2 ^ len l j ∨ len l j = 0 := by
  by_cases h0 : len l j = 0
  · exact .inr h0
  · have h1 := wv_lt h j hj h0
    have h2 := upTo_le h (len l j) (len_le (right_ok h) j)
    exact .inl (by omega)
theorem wv_32768 {l : List Int} (h : kindOf l ≠ 0) (j : Nat) (hj : j < l.length) : wv l j < 32768 := by
  rcases wv_small h j hj with h1 | h1
  · have := Nat.pow_le_pow_right (n := 2) (i := len l j) (j := 15) (by omega) (len_le (right_ok h) j)
    omega
  · rw [wv_none l j h1]; omega

/-- A number's bits, the highest first. -/
def hi (n v : Nat) : List Bool := (bitsOf v n).reverse
@[simp] theorem hi_length (n v : Nat) : (hi n v).length = n := by
  simp [hi]
theorem hi_zero (v : Nat) : hi 0 v = [] := List.eq_nil_of_length_eq_zero (by simp)
theorem hi_snoc (n v : Nat) : hi (n + 1) v = hi n (v / 2) ++ [v % 2 == 1] := by
  unfold hi
  rw [Nat.add_comm n 1, bitsOf_add]
  simp [bitsOf]
theorem hi_double (n v : Nat) : hi (n + 1) (2 * v) = hi n v ++ [false] := by
  rw [hi_snoc, show 2 * v / 2 = v by omega, show 2 * v % 2 = 0 by omega]; rfl
theorem hi_bit (n v : Nat) (b : Bool) : hi (n + 1) (2 * v + b.toNat) = hi n v ++ [b] := by
  rw [hi_snoc]
  cases b
  · rw [show (2 * v + Bool.toNat false) / 2 = v by simp, show (2 * v + Bool.toNat false) % 2 = 0 by simp]; rfl
  · rw [show (2 * v + Bool.toNat true) / 2 = v by simp; omega, show (2 * v + Bool.toNat true) % 2 = 1 by simp]; rfl
theorem num_rev_hi (n v : Nat) : num (hi n v).reverse = v % 2 ^ n := by simp [hi, num_bitsOf]
theorem hi_inj (n v u : Nat) (h : hi n v = hi n u) (hv : v < 2 ^ n) (hu : u < 2 ^ n) : v = u := by
  have := congrArg (fun x => num x.reverse) h
  simp only [num_rev_hi] at this
  rwa [Nat.mod_eq_of_lt hv, Nat.mod_eq_of_lt hu] at this
/-- A sign's word as bits. -/
def wb (l : List Int) (j : Nat) : List Bool := hi (len l j) (wv l j)
@[simp] theorem wb_length (l : List Int) (j : Nat) : (wb l j).length = len l j := by simp [wb]
theorem wb_inj {l : List Int} (h : kindOf l ≠ 0) (i j : Nat) (hi' : i < l.length) (hj : j < l.length) (h0 : len l i ≠ 0) (he : wb l i = wb l j) : i = j := by
  have hl : len l i = len l j := by have := congrArg List.length he; simpa using this
  unfold wb at he
  rw [← hl] at he
  have a := (wv_small h i hi').resolve_right h0
  have b := (wv_small h j hj).resolve_right (by omega)
  have e := hi_inj _ _ _ he a (by rw [hl]; exact b)
  unfold wv at e
  rw [← hl] at e
  exact ct_inj (len l i) l i j hi' hj h0 (len_eq (right_ok h) i hi') (by rw [hl]; exact len_eq (right_ok h) j hj) (by omega)
/-- How many words of at most n bits. -/
def nw (n : Nat) : List Int → Nat
  | [] => 0
  | x :: l => (if 1 ≤ x ∧ x ≤ n then 1 else 0) + nw n l
theorem nw_succ (n : Nat) (l : List Int) : nw (n + 1) l = nw n l + ct (n + 1) l := by
  induction l with
  | nil => rfl
  | cons x l ih =>
    simp only [nw, ct, ih]
    by_cases h : x = ((n + 1 : Nat) : Int)
    · rw [if_pos (by omega), if_neg (by omega), if_pos ⟨h, by omega⟩]; omega
    · rw [if_neg (c := x = ((n + 1 : Nat) : Int) ∧ n + 1 ≠ 0) (by omega)]
      by_cases h2 : 1 ≤ x ∧ x ≤ n
      · rw [if_pos (by omega), if_pos h2]; omega
      · rw [if_neg (by omega), if_neg h2]; omega
theorem nw_zero (l : List Int) : nw 0 l = 0 := by
  induction l with
  | nil => rfl
  | cons x l ih => simp only [nw, ih]; rw [if_neg (by omega)]
theorem bas_nw (l : List Int) : ∀ n, bas l (n + 1) = nw n l
  | 0 => by simp [bas, ct_zero, nw_zero]
  | n + 1 => by rw [bas, bas_nw l n, nw_succ]
theorem nw_all (l : List Int) (hl : Ok l) : nw 15 l = words l := by
  induction l with
  | nil => rfl
  | cons x l ih =>
    have hx := hl x List.mem_cons_self
    simp only [nw, words, ih fun y hy => hl y (List.mem_cons_of_mem _ hy)]
    by_cases h : x = 0
    · subst h; simp
    · rw [if_neg h, if_pos (by omega)]
theorem bas_words (l : List Int) (h : Ok l) : bas l 16 = words l := by rw [bas_nw, nw_all l h]
theorem bas_mono (l : List Int) {a b : Nat} (h : a ≤ b) : bas l a ≤ bas l b := by
  induction b with
  | zero => rw [Nat.le_zero.1 h]; exact Nat.le_refl _
  | succ b ih =>
    rcases Nat.lt_or_ge b a with h1 | h1
    · rw [show a = b + 1 by omega]; exact Nat.le_refl _
    · have := ih h1
      simp only [bas]
      omega
end Go.Proofs.Ytnnpiblnjflceaa
