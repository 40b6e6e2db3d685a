/-
  Words of a code: mathematics, nothing of the program. Conditions: each theorem names its own.
-/
import Derived.Test.YtobchlakjgeadaaA
import Derived.WalkKit
namespace Go.Proofs.Ytobchlakjgeadaa


def Ok (l : List Int) : Prop := ∀ x ∈ l, 0 ≤ x ∧ x ≤ 15
instance (l : List Int) : Decidable (Ok l) := by unfold Ok; exact inferInstance
def wt (x : Int) : Nat := if x = 0 then 0 else 2 ^ (15 - x.toNat)
def weight : List Int → Nat
  | [] => 0
  | x :: l => wt x + weight l
def words : List Int → Nat
  | [] => 0
  | x :: l => (if x = 0 then 0 else 1) + words l
def ones : List Int → Nat
  | [] => 0
  | x :: l => (if x = 1 then 1 else 0) + ones l
def kindOf (l : List Int) : Nat :=
  if Ok l then (if words l = 0 then 1 else if words l = 1 ∧ weight l = 16384 then 2 else if weight l = 32768 then 3 else 0) else 0

theorem weight_append (a b : List Int) : weight (a ++ b) = weight a + weight b := by
  induction a with
  | nil => simp [weight]
  | cons x a ih => simp [weight, ih]; omega
theorem words_append (a b : List Int) : words (a ++ b) = words a + words b := by
  induction a with
  | nil => simp [words]
  | cons x a ih => simp [words, ih]; omega
theorem ones_append (a b : List Int) : ones (a ++ b) = ones a + ones b := by
  induction a with
  | nil => simp [ones]
  | cons x a ih => simp [ones, ih]; omega
theorem take_snoc {α : Type} (l : List α) (k : Nat) (h : k < l.length) : l.take (k + 1) = l.take k ++ [l[k]] := by
  rw [List.take_add_one, List.getElem?_eq_getElem h]; rfl
theorem weight_take (l : List Int) (k : Nat) (h : k < l.length) : weight (l.take (k + 1)) = weight (l.take k) + wt l[k] := by
  rw [take_snoc l k h, weight_append]; simp [weight]
theorem words_take (l : List Int) (k : Nat) (h : k < l.length) : words (l.take (k + 1)) = words (l.take k) + (if l[k] = 0 then 0 else 1) := by
  rw [take_snoc l k h, words_append]; simp [words]
theorem ones_take (l : List Int) (k : Nat) (h : k < l.length) : ones (l.take (k + 1)) = ones (l.take k) + (if l[k] = 1 then 1 else 0) := by
  rw [take_snoc l k h, ones_append]; simp [ones]
theorem ok_take (l : List Int) (k : Nat) (h : k < l.length) : Ok (l.take (k + 1)) ↔ Ok (l.take k) ∧ 0 ≤ l[k] ∧ l[k] ≤ 15 := by
  rw [take_snoc l k h]
  simp only [Ok, List.mem_append, List.mem_singleton]
  constructor
  · intro h
    exact ⟨fun x hx => h x (.inl hx), h _ (.inr rfl)⟩
  · rintro ⟨h1, h2⟩ x (hx | rfl)
    · exact h1 x hx
    · exact h2
theorem not_ok {l : List Int} {k : Nat} (h : k < l.length) (hx : ¬ (0 ≤ l[k] ∧ l[k] ≤ 15)) : ¬ Ok l := fun hl => hx (hl _ (List.getElem_mem h))
theorem weight_le_take (l : List Int) (k : Nat) : weight (l.take k) ≤ weight l := by
  conv => rhs; rw [← List.take_append_drop k l, weight_append]
  omega
theorem words_le (l : List Int) : words l ≤ l.length := by
  induction l with
  | nil => simp [words]
  | cons x l ih => simp only [words, List.length_cons]; split <;> omega
theorem ones_le (l : List Int) : ones l ≤ l.length := by
  induction l with
  | nil => simp [ones]
  | cons x l ih => simp only [ones, List.length_cons]; split <;> omega
theorem wt_le (x : Int) : wt x ≤ 32768 := by
  unfold wt
  split
  · omega
  · exact Nat.pow_le_pow_right (n := 2) (i := 15 - x.toNat) (j := 15) (by omega) (by omega)
theorem weight_le (l : List Int) : weight l ≤ 32768 * l.length := by
  induction l with
  | nil => simp [weight]
  | cons x l ih => simp only [weight, List.length_cons]; have := wt_le x; omega
theorem words_zero (l : List Int) (h : words l = 0) : weight l = 0 ∧ ones l = 0 := by
  induction l with
  | nil => simp [weight, ones]
  | cons x l ih =>
    simp only [words] at h
    split at h
    · next hx => subst hx; have := ih (by omega); simp [weight, ones, wt, this]
    · omega
theorem wt_one (x : Int) (h0 : 0 ≤ x) (h : x ≤ 15) : wt x = 16384 ↔ x = 1 := by
  obtain ⟨m, rfl⟩ := Int.eq_ofNat_of_zero_le h0
  have : m = 0 ∨ m = 1 ∨ m = 2 ∨ m = 3 ∨ m = 4 ∨ m = 5 ∨ m = 6 ∨ m = 7 ∨ m = 8 ∨ m = 9 ∨ m = 10 ∨ m = 11 ∨ m = 12 ∨ m = 13 ∨ m = 14 ∨ m = 15 := by omega
  rcases this with rfl | rfl | rfl | rfl | rfl | rfl | rfl | rfl | rfl | rfl | rfl | rfl | rfl | rfl | rfl | rfl <;> decide
theorem wt_lt (x : Int) (h0 : 0 ≤ x) : wt x ≤ 16384 := by
  unfold wt
  split
  · omega
  · exact Nat.pow_le_pow_right (n := 2) (i := 15 - x.toNat) (j := 14) (by omega) (by omega)
theorem words_one (l : List Int) (hl : Ok l) (h : words l = 1) : (weight l = 16384 ↔ ones l = 1) ∧ weight l ≤ 16384 := by
  induction l with
  | nil => simp [words] at h
  | cons x l ih =>
    have hl' : Ok l := fun y hy => hl y (List.mem_cons_of_mem _ hy)
    obtain ⟨hx0, hx1⟩ := hl x (List.mem_cons_self)
    simp only [words] at h
    split at h
    · next hx => subst hx; have := ih hl' (by omega); simpa [weight, ones, wt] using this
    · have := words_zero l (by omega)
      have hw := wt_one x hx0 hx1
      have hw2 := wt_lt x hx0
      simp only [weight, ones, this.1, this.2, Nat.add_zero]
      refine ⟨?_, hw2⟩
      rw [hw]
      split <;> simp_all
/-- Weight above the whole: wrong, whatever comes behind. -/
theorem kind_over (l : List Int) (k : Nat) (h : 32768 < weight (l.take k)) : kindOf l = 0 := by
  have h1 := weight_le_take l k
  unfold kindOf
  split
  · next hl =>
    rw [if_neg, if_neg, if_neg]
    · omega
    · rintro ⟨h2, h3⟩; omega
    · intro h2; have := (words_zero l h2).1; omega
  · rfl
/-- As the document says it. -/
theorem kind_doc (l : List Int) : kindOf l = if Ok l then (if words l = 0 then 1 else if words l = 1 ∧ ones l = 1 then 2 else if weight l = 32768 then 3 else 0) else 0 := by
  unfold kindOf
  by_cases hl : Ok l
  · simp only [hl, if_true]
    by_cases h0 : words l = 0
    · simp [h0]
    · by_cases h1 : words l = 1
      · have := words_one l hl h1
        simp only [h1, true_and, this.1]
      · simp [h1]
  · simp [hl]


/-- How many words of n bits. -/
def ct (n : Nat) : List Int → Nat
  | [] => 0
  | x :: l => (if x = n ∧ n ≠ 0 then 1 else 0) + ct n l
/-- The first word of n bits. -/
def fst (l : List Int) : Nat → Nat
  | 0 => 0
  | n + 1 => 2 * (fst l n + ct n l)
/-- How many words of fewer bits. -/
def bas (l : List Int) : Nat → Nat
  | 0 => 0
  | n + 1 => bas l n + ct n l
def upTo (l : List Int) (n : Nat) : Nat := fst l n + ct n l
/-- The length of a sign's word; its word's number. -/
def len (l : List Int) (j : Nat) : Nat := (l.getD j 0).toNat
def wv (l : List Int) (j : Nat) : Nat := fst l (len l j) + ct (len l j) (l.take j)

theorem ct_zero (l : List Int) : ct 0 l = 0 := by
  induction l with
  | nil => rfl
  | cons x l ih => simp [ct, ih]
theorem ct_append (n : Nat) (a b : List Int) : ct n (a ++ b) = ct n a + ct n b := by
  induction a with
  | nil => simp [ct]
  | cons x a ih => simp [ct, ih]; omega
theorem ct_take (n : Nat) (l : List Int) (k : Nat) (h : k < l.length) : ct n (l.take (k + 1)) = ct n (l.take k) + (if l[k] = n ∧ n ≠ 0 then 1 else 0) := by
  rw [take_snoc l k h, ct_append]; simp [ct]
theorem ct_take_le (n : Nat) (l : List Int) (k : Nat) : ct n (l.take k) ≤ ct n l := by
  conv => rhs; rw [← List.take_append_drop k l, ct_append]
  omega
theorem ct_take_mono (n : Nat) (l : List Int) {i j : Nat} (h : i ≤ j) : ct n (l.take i) ≤ ct n (l.take j) := by
  have := ct_take_le n (l.take j) i
  rwa [List.take_take, Nat.min_eq_left h] at this
theorem ct_le (n : Nat) (l : List Int) : ct n l ≤ l.length := by
  induction l with
  | nil => simp [ct]
  | cons x l ih => simp only [ct, List.length_cons]; split <;> omega
theorem ct_take_self (n : Nat) (l : List Int) (j : Nat) (h : j < l.length) (hx : l[j] = n) (h0 : n ≠ 0) : ct n (l.take j) < ct n l := by
  have h1 := ct_take n l j h
  rw [if_pos ⟨hx, h0⟩] at h1
  have := ct_take_le n l (j + 1)
  omega
theorem ct_find (n : Nat) (l : List Int) (r : Nat) : ∀ k, k ≤ l.length → r < ct n (l.take k) → ∃ i, ∃ h : i < l.length, i < k ∧ l[i] = n ∧ n ≠ 0 ∧ ct n (l.take i) = r
  | 0, _, h => by simp [ct] at h
  | k + 1, hk, h => by
    have h1 := ct_take n l k (by omega)
    by_cases h2 : r < ct n (l.take k)
    · obtain ⟨i, hi, a, b⟩ := ct_find n l r k (by omega) h2
      exact ⟨i, hi, by omega, b⟩
    · split at h1
      · next h3 => exact ⟨k, by omega, by omega, h3.1, h3.2, by omega⟩
      · omega
theorem ct_found (n : Nat) (l : List Int) (r : Nat) (h : r < ct n l) : ∃ i, ∃ h : i < l.length, l[i] = n ∧ n ≠ 0 ∧ ct n (l.take i) = r := by
  obtain ⟨i, hi, _, b⟩ := ct_find n l r l.length (Nat.le_refl _) (by rwa [List.take_length])
  exact ⟨i, hi, b⟩
theorem ct_inj (n : Nat) (l : List Int) (i j : Nat) (hi : i < l.length) (hj : j < l.length) (h0 : n ≠ 0) (hx : l[i] = n) (hy : l[j] = n) (h : ct n (l.take i) = ct n (l.take j)) : i = j := by
  rcases Nat.lt_trichotomy i j with h1 | h1 | h1
  · have a := ct_take n l i hi
    have b := ct_take_mono n l (show i + 1 ≤ j by omega)
    rw [if_pos ⟨hx, h0⟩] at a
    omega
  · exact h1
  · have a := ct_take n l j hj
    have b := ct_take_mono n l (show j + 1 ≤ i by omega)
    rw [if_pos ⟨hy, h0⟩] at a
    omega

/-- The weight of the words of at most n bits. -/
def pw (n : Nat) : List Int → Nat
  | [] => 0
  | x :: l => (if 1 ≤ x ∧ x ≤ n then 2 ^ (15 - x.toNat) else 0) + pw n l
theorem pw_succ (n : Nat) (l : List Int) : pw (n + 1) l = pw n l + ct (n + 1) l * 2 ^ (15 - (n + 1)) := by
  induction l with
  | nil => simp [pw, ct]
  | cons x l ih =>
    simp only [pw, ct, ih, Nat.add_mul]
    by_cases h : x = ((n + 1 : Nat) : Int)
    · rw [if_pos (by omega), if_neg (by omega), if_pos ⟨h, by omega⟩, h, Int.toNat_natCast]
      omega
    · rw [if_neg (c := x = ((n + 1 : Nat) : Int) ∧ n + 1 ≠ 0) (by omega)]
      by_cases h2 : 1 ≤ x ∧ x ≤ n
      · rw [if_pos (by omega), if_pos h2]; omega
      · rw [if_neg (by omega), if_neg h2]; omega
theorem pw_zero (l : List Int) : pw 0 l = 0 := by
  induction l with
  | nil => rfl
  | cons x l ih => simp only [pw, ih]; rw [if_neg (by omega)]
theorem upTo_succ (l : List Int) (n : Nat) : upTo l (n + 1) = 2 * upTo l n + ct (n + 1) l := rfl
theorem upTo_zero (l : List Int) : upTo l 0 = 0 := by simp [upTo, fst, ct_zero]
theorem upTo_pw (l : List Int) : ∀ n, n ≤ 15 → upTo l n * 2 ^ (15 - n) = pw n l
  | 0, _ => by rw [upTo_zero, pw_zero, Nat.zero_mul]
  | n + 1, h => by
    rw [upTo_succ, pw_succ, ← upTo_pw l n (by omega), Nat.add_mul, show 15 - n = (15 - (n + 1)) + 1 by omega, Nat.pow_succ]
    generalize 2 ^ (15 - (n + 1)) = p
    rw [Nat.mul_comm 2, Nat.mul_assoc, Nat.mul_comm 2]
theorem pw_le (n : Nat) (l : List Int) (hl : Ok l) : pw n l ≤ weight l := by
  induction l with
  | nil => simp [pw, weight]
  | cons x l ih =>
    have hx := hl x List.mem_cons_self
    have := ih fun y hy => hl y (List.mem_cons_of_mem _ hy)
    simp only [pw, weight, wt]
    by_cases h : x = 0
    · subst h; simp; exact this
    · rw [if_neg h]; generalize 2 ^ (15 - x.toNat) = p; split <;> omega
theorem pw_all (l : List Int) (hl : Ok l) : pw 15 l = weight l := by
  induction l with
  | nil => rfl
  | cons x l ih =>
    have hx := hl x List.mem_cons_self
    simp only [pw, weight, wt, ih fun y hy => hl y (List.mem_cons_of_mem _ hy)]
    by_cases h : x = 0
    · subst h; simp
    · rw [if_neg h, if_pos (by omega)]
theorem right_ok {l : List Int} (h : kindOf l ≠ 0) : Ok l := by
  unfold kindOf at h
  split at h
  · assumption
  · exact absurd rfl h
theorem right_weight {l : List Int} (h : kindOf l ≠ 0) : weight l ≤ 32768 := by
  have hl := right_ok h
  unfold kindOf at h
  rw [if_pos hl] at h
  split at h
  · next h1 => have := (words_zero l h1).1; omega
  · split at h
    · omega
    · split at h
      · omega
      · exact absurd rfl h
theorem upTo_le {l : List Int} (h : kindOf l ≠ 0) (n : Nat) (hn : n ≤ 15) : upTo l n ≤ 2 ^ n := by
  have h1 := upTo_pw l n hn
  have h2 := pw_le n l (right_ok h)
  have h3 := right_weight h
  have h4 : upTo l n * 2 ^ (15 - n) ≤ 2 ^ n * 2 ^ (15 - n) := by
    rw [← Nat.pow_add, show n + (15 - n) = 15 by omega]
    omega
  exact Nat.le_of_mul_le_mul_right h4 (Nat.two_pow_pos _)
theorem len_le {l : List Int} (h : Ok l) (j : Nat) : len l j ≤ 15 := by
  unfold len
  by_cases hj : j < l.length
  · simp only [List.getD, List.getElem?_eq_getElem hj, Option.getD_some]
    have := h _ (List.getElem_mem hj)
    omega
  · simp [List.getD, List.getElem?_eq_none (Nat.le_of_not_lt hj)]
theorem len_eq {l : List Int} (h : Ok l) (j : Nat) (hj : j < l.length) : l[j] = (len l j : Int) := by
  simp only [len, List.getD, List.getElem?_eq_getElem hj, Option.getD_some]
  have := h _ (List.getElem_mem hj)
  omega
theorem wv_none (l : List Int) (j : Nat) (h : len l j = 0) : wv l j = 0 := by simp [wv, h, fst, ct_zero]
theorem wv_lt {l : List Int} (h : kindOf l ≠ 0) (j : Nat) (hj : j < l.length) (h0 : len l j ≠ 0) : wv l j < upTo l (len l j) := by
  have := ct_take_self (len l j) l j hj (len_eq (right_ok h) j hj) h0
  unfold wv upTo
  omega
theorem wv_small {l : List Int} (h : kindOf l ≠ 0) (j : Nat) (hj : j < l.length) : wv l j < 2 ^ len l j ∨ len l j = 0 := by
  by_cases h0 : len l j = 0
  · exact .inr h0
  · have h1 := wv_lt h j hj h0
    have h2 := upTo_le h (len l j) (len_le (right_ok h) j)
    exact .inl (by omega)
theorem wv_32768 {l : List Int} (h : kindOf l ≠ 0) (j : Nat) (hj : j < l.length) : wv l j < 32768 := by
  rcases wv_small h j hj with h1 | h1
  · have := Nat.pow_le_pow_right (n := 2) (i := len l j) (j := 15) (by omega) (len_le (right_ok h) j)
    omega
  · rw [wv_none l j h1]; omega

/-- A number's bits, the highest first. -/
def hi (n v : Nat) : List Bool := (bitsOf v n).reverse
@[simp] theorem hi_length (n v : Nat) : (hi n v).length = n := by
  simp [hi]
theorem hi_zero (v : Nat) : hi 0 v = [] := List.eq_nil_of_length_eq_zero (by simp)
theorem hi_snoc (n v : Nat) : hi (n + 1) v = hi n (v / 2) ++ [v % 2 == 1] := by
  unfold hi
  rw [Nat.add_comm n 1, bitsOf_add]
  simp [bitsOf]
theorem hi_double (n v : Nat) : hi (n + 1) (2 * v) = hi n v ++ [false] := by
  rw [hi_snoc, show 2 * v / 2 = v by omega, show 2 * v % 2 = 0 by omega]; rfl
theorem hi_bit (n v : Nat) (b : Bool) : hi (n + 1) (2 * v + b.toNat) = hi n v ++ [b] := by
  rw [hi_snoc]
  cases b
  · rw [show (2 * v + Bool.toNat false) / 2 = v by simp, show (2 * v + Bool.toNat false) % 2 = 0 by simp]; rfl
  · rw [show (2 * v + Bool.toNat true) / 2 = v by simp; omega, show (2 * v + Bool.toNat true) % 2 = 1 by simp]; rfl
theorem num_rev_hi (n v : Nat) : num (hi n v).reverse = v % 2 ^ n := by simp [hi, num_bitsOf]
theorem hi_inj (n v u : Nat) (h : hi n v = hi n u) (hv : v < 2 ^ n) (hu : u < 2 ^ n) : v = u := by
  have := congrArg (fun x => num x.reverse) h
  simp only [num_rev_hi] at this
  rwa [Nat.mod_eq_of_lt hv, Nat.mod_eq_of_lt hu] at this
/-- A sign's word as bits. -/
def wb (l : List Int) (j : Nat) : List Bool := hi (len l j) (wv l j)
@[simp] theorem wb_length (l : List Int) (j : Nat) : (wb l j).length = len l j := by simp [wb]
theorem wb_inj {l : List Int} (h : kindOf l ≠ 0) (i j : Nat) (hi' : i < l.length) (hj : j < l.length) (h0 : len l i ≠ 0) (he : wb l i = wb l j) : i = j := by
  have hl : len l i = len l j := by have := congrArg List.length he; simpa using this
  unfold wb at he
  rw [← hl] at he
  have a := (wv_small h i hi').resolve_right h0
  have b := (wv_small h j hj).resolve_right (by omega)
  have e := hi_inj _ _ _ he a (by rw [hl]; exact b)
  unfold wv at e
  rw [← hl] at e
  exact ct_inj (len l i) l i j hi' hj h0 (len_eq (right_ok h) i hi') (by rw [hl]; exact len_eq (right_ok h) j hj) (by omega)
/-- How many words of at most n bits. -/
def nw (n : Nat) : List Int → Nat
  | [] => 0
  | x :: l => (if 1 ≤ x ∧ x ≤ n then 1 else 0) + nw n l
theorem nw_succ (n : Nat) (l : List Int) : nw (n + 1) l = nw n l + ct (n + 1) l := by
  induction l with
  | nil => rfl
  | cons x l ih =>
    simp only [nw, ct, ih]
    by_cases h : x = ((n + 1 : Nat) : Int)
    · rw [if_pos (by omega), if_neg (by omega), if_pos ⟨h, by omega⟩]; omega
    · rw [if_neg (c := x = ((n + 1 : Nat) : Int) ∧ n + 1 ≠ 0) (by omega)]
      by_cases h2 : 1 ≤ x ∧ x ≤ n
      · rw [if_pos (by omega), if_pos h2]; omega
      · rw [if_neg (by omega), if_neg h2]; omega
theorem nw_zero (l : List Int) : nw 0 l = 0 := by
  induction l with
  | nil => rfl
  | cons x l ih => simp only [nw, ih]; rw [if_neg (by omega)]
theorem bas_nw (l : List Int) : ∀ n, bas l (n + 1) = nw n l
  | 0 => by simp [bas, ct_zero, nw_zero]
  | n + 1 => by rw [bas, bas_nw l n, nw_succ]
theorem nw_all (l : List Int) (hl : Ok l) : nw 15 l = words l := by
  induction l with
  | nil => rfl
  | cons x l ih =>
    have hx := hl x List.mem_cons_self
    simp only [nw, words, ih fun y hy => hl y (List.mem_cons_of_mem _ hy)]
    by_cases h : x = 0
    · subst h; simp
    · rw [if_neg h, if_pos (by omega)]
theorem bas_words (l : List Int) (h : Ok l) : bas l 16 = words l := by rw [bas_nw, nw_all l h]
theorem bas_mono (l : List Int) {a b : Nat} (h : a ≤ b) : bas l a ≤ bas l b := by
  induction b with
  | zero => rw [Nat.le_zero.1 h]; exact Nat.le_refl _
  | succ b ih =>
    rcases Nat.lt_or_ge b a with h1 | h1
    · rw [show a = b + 1 by omega]; exact Nat.le_refl _
    · have := ih h1
      simp only [bas]
      omega


/-- A sign's place among all words. -/
def pos (l : List Int) (j : Nat) : Nat := bas l (len l j) + ct (len l j) (l.take j)
/-- The row of signs, when the first k signs have been looked at. -/
def sg (l : List Int) : Nat → Nat → Nat
  | 0, _ => 0
  | k + 1, p => if len l k ≠ 0 ∧ p = pos l k then k else sg l k p

theorem pos_lt {l : List Int} (h : Ok l) (j : Nat) (hj : j < l.length) (h0 : len l j ≠ 0) : pos l j < words l := by
  have h1 := ct_take_self (len l j) l j hj (len_eq h j hj) h0
  have h2 := len_le h j
  have h3 := bas_mono l (show len l j + 1 ≤ 16 by omega)
  rw [bas_words l h] at h3
  simp only [bas] at h3
  unfold pos
  omega
theorem pos_inj {l : List Int} (h : Ok l) (i j : Nat) (hi : i < l.length) (hj : j < l.length) (hi0 : len l i ≠ 0) (hj0 : len l j ≠ 0) (he : pos l i = pos l j) : i = j := by
  have a := ct_take_self (len l i) l i hi (len_eq h i hi) hi0
  have b := ct_take_self (len l j) l j hj (len_eq h j hj) hj0
  unfold pos at he
  rcases Nat.lt_trichotomy (len l i) (len l j) with h1 | h1 | h1
  · have := bas_mono l (show len l i + 1 ≤ len l j by omega)
    simp only [bas] at this
    omega
  · rw [h1] at he
    exact ct_inj (len l j) l i j hi hj hj0 (by rw [← h1]; exact len_eq h i hi) (len_eq h j hj) (by omega)
  · have := bas_mono l (show len l j + 1 ≤ len l i by omega)
    simp only [bas] at this
    omega
theorem sg_at {l : List Int} (h : Ok l) : ∀ k, k ≤ l.length → ∀ j, j < k → len l j ≠ 0 → sg l k (pos l j) = j
  | 0, _, j, hj, _ => absurd hj (Nat.not_lt_zero _)
  | k + 1, hk, j, hj, h0 => by
    simp only [sg]
    by_cases hjk : j = k
    · subst hjk; rw [if_pos ⟨h0, rfl⟩]
    · rw [if_neg, sg_at h k (by omega) j (by omega) h0]
      rintro ⟨h1, h2⟩
      exact hjk (pos_inj h j k (by omega) (by omega) h0 h1 h2)
theorem sg_lt (l : List Int) : ∀ k p, sg l k p ≤ k
  | 0, _ => Nat.le_refl _
  | k + 1, p => by
    simp only [sg]
    split
    · omega
    · have := sg_lt l k p; omega


/-- What comes next: a word of n bits whose number is v; bits that are no word's beginning; the end. -/
inductive Look where
  | found (n v : Nat)
  | code
  | fin

/-- k bits have been read, their number is v; they are no word. -/
def look (l : List Int) (bits : List Bool) : Nat → Nat → Nat → Look
  | 0, _, _ => .code
  | f + 1, k, v =>
    if words l ≤ bas l (k + 1) then .code
    else match bits[k]? with
      | none => .fin
      | some b => if 2 * v + b.toNat < upTo l (k + 1) then .found (k + 1) (2 * v + b.toNat) else look l bits f (k + 1) (2 * v + b.toNat)
def lookup (l : List Int) (bits : List Bool) : Look := look l bits 16 0 0

theorem look_code {l : List Int} {bits : List Bool} {f k v : Nat} (h : words l ≤ bas l (k + 1)) : look l bits (f + 1) k v = .code := by simp only [look]; rw [if_pos h]
theorem look_fin {l : List Int} {bits : List Bool} {f k v : Nat} (h : ¬ words l ≤ bas l (k + 1)) (hb : bits.length ≤ k) : look l bits (f + 1) k v = .fin := by
  simp only [look]; rw [if_neg h, List.getElem?_eq_none hb]
theorem look_step {l : List Int} {bits : List Bool} {f k v : Nat} (h : ¬ words l ≤ bas l (k + 1)) (hb : k < bits.length) :
    look l bits (f + 1) k v = if 2 * v + bits[k].toNat < upTo l (k + 1) then .found (k + 1) (2 * v + bits[k].toNat) else look l bits f (k + 1) (2 * v + bits[k].toNat) := by
  simp only [look]; rw [if_neg h, List.getElem?_eq_getElem hb]

/-- The sign of a word's number. -/
theorem sign_of {l : List Int} (h : kindOf l ≠ 0) (n v : Nat) (h1 : fst l n ≤ v) (h2 : v < upTo l n) : ∃ j, j < l.length ∧ len l j = n ∧ n ≠ 0 ∧ wv l j = v ∧ pos l j = bas l n + (v - fst l n) := by
  obtain ⟨j, hj, a, b, c⟩ := ct_found n l (v - fst l n) (by unfold upTo at h2; omega)
  have e : len l j = n := by
    have := len_eq (right_ok h) j hj
    omega
  exact ⟨j, hj, e, b, by unfold wv; rw [e, c]; omega, by unfold pos; rw [e, c]⟩

theorem hi_take (k d v : Nat) : (hi (k + d) v).take k = hi k (v / 2 ^ d) := by
  induction d generalizing v with
  | zero => rw [List.take_of_length_le (by simp)]; simp
  | succ d ih =>
    rw [← Nat.add_assoc, hi_snoc, List.take_append_of_le_length (by simp), ih, Nat.pow_succ, Nat.mul_comm, Nat.div_div_eq_div_mul]
theorem pow_le15 {k : Nat} (h : k ≤ 15) : 2 ^ k ≤ 32768 := Nat.pow_le_pow_right (n := 2) (i := k) (j := 15) (by omega) h

theorem ct_ones (l : List Int) : ct 1 l = ones l := by
  induction l with
  | nil => rfl
  | cons x l ih => simp only [ct, ones, ih]; simp
theorem word_some (l : List Int) (hok : Ok l) (h : 0 < words l) : ∃ j, j < l.length ∧ 0 < len l j := by
  induction l with
  | nil => simp [words] at h
  | cons x l ih =>
    by_cases hx : x = 0
    · obtain ⟨j, a, b⟩ := ih (fun y hy => hok y (List.mem_cons_of_mem _ hy)) (by simpa [words, hx] using h)
      exact ⟨j + 1, by simpa using a, by simpa [len] using b⟩
    · have := hok x List.mem_cons_self
      exact ⟨0, by simp, by simp [len]; omega⟩

/-- Bits that are no word, while there are longer words: a longer one begins with them. -/
theorem cover {l : List Int} (h : kindOf l ≠ 0) (k v : Nat) (hk : k ≤ 15) (hv : v < 2 ^ k) (hu : upTo l k ≤ v) (hw : bas l (k + 1) < words l) :
    ∃ j, j < l.length ∧ k < len l j ∧ (wb l j).take k = hi k v := by
  have hok := right_ok h
  have h3 := h
  unfold kindOf at h3
  rw [if_pos hok] at h3
  split at h3
  · omega
  · split at h3
    · next h4 h5 =>
      -- one word alone, of one bit
      have hb : bas l (k + 1) = 0 := by omega
      have h6 : k = 0 := by
        rcases Nat.eq_zero_or_pos k with h6 | h6
        · exact h6
        · exfalso
          have h7 := bas_mono l (show 2 ≤ k + 1 by omega)
          have h8 := (words_one l hok h5.1).1.1 h5.2
          have h9 := ct_ones l
          have h10 : bas l 2 = bas l 1 + ct 1 l := rfl
          omega
      subst h6
      obtain ⟨j, a, b⟩ := word_some l hok (by omega)
      exact ⟨j, a, b, by simp [hi_zero]⟩
    · split at h3
      · next h4 h5 h6 =>
        have h7 := upTo_pw l 15 (Nat.le_refl _)
        rw [pw_all l hok, h6] at h7
        -- the least length at which the words go beyond those bits
        have key : ∀ d, k + d ≤ 15 → (∃ j, j < l.length ∧ k < len l j ∧ (wb l j).take k = hi k v) ∨ upTo l (k + d) ≤ v * 2 ^ d := by
          intro d
          induction d with
          | zero => intro _; exact .inr (by simpa using hu)
          | succ d ih =>
            intro hd
            rcases ih (by omega) with ih | ih
            · exact .inl ih
            · by_cases hx : upTo l (k + (d + 1)) ≤ v * 2 ^ (d + 1)
              · exact .inr hx
              · left
                have e1 : fst l (k + (d + 1)) = 2 * upTo l (k + d) := rfl
                have e2 : v * 2 ^ (d + 1) = 2 * (v * 2 ^ d) := by rw [Nat.pow_succ]; rw [← Nat.mul_assoc, Nat.mul_comm]
                obtain ⟨j, a, b, c, e, _⟩ := sign_of h (k + (d + 1)) (v * 2 ^ (d + 1)) (by omega) (by omega)
                refine ⟨j, a, by omega, ?_⟩
                unfold wb
                rw [b, e, hi_take, Nat.mul_div_cancel _ (Nat.two_pow_pos _)]
        rcases key (15 - k) (by omega) with h8 | h8
        · exact h8
        · exfalso
          rw [show k + (15 - k) = 15 by omega] at h8
          have h9 : v * 2 ^ (15 - k) < 2 ^ k * 2 ^ (15 - k) := Nat.mul_lt_mul_of_pos_right hv (Nat.two_pow_pos _)
          rw [← Nat.pow_add, show k + (15 - k) = 15 by omega] at h9
          simp at h7
          omega
      · exact absurd rfl h3
/-- A longer word is beyond those of at most k bits. -/
theorem longer {l : List Int} (h : Ok l) (k j : Nat) (hj : j < l.length) (hk : k < len l j) : bas l (k + 1) < words l := by
  have h1 := pos_lt h j hj (by omega)
  have h2 := bas_mono l (show k + 1 ≤ len l j by omega)
  unfold pos at h1
  omega
theorem look_found {l : List Int} {bits : List Bool} {n u : Nat} : ∀ f k v, upTo l k ≤ v → hi k v = bits.take k → look l bits f k v = .found n u →
    k < n ∧ n ≤ bits.length ∧ fst l n ≤ u ∧ u < upTo l n ∧ hi n u = bits.take n
  | 0, k, v, _, _, h => by simp [look] at h
  | f + 1, k, v, h1, h2, h => by
    by_cases hw : words l ≤ bas l (k + 1)
    · rw [look_code hw] at h; cases h
    · by_cases hb : k < bits.length
      · have e : hi (k + 1) (2 * v + bits[k].toNat) = bits.take (k + 1) := by rw [hi_bit, h2, take_snoc bits k hb]
        rw [look_step hw hb] at h
        split at h
        · next h3 =>
          injection h with h4 h5
          subst h4 h5
          have : fst l (k + 1) = 2 * upTo l k := rfl
          exact ⟨by omega, by omega, by omega, h3, e⟩
        · next h3 =>
          have := look_found f (k + 1) _ (by omega) e h
          exact ⟨by omega, this.2⟩
      · rw [look_fin hw (by omega)] at h; cases h
theorem lookup_found {l : List Int} {bits : List Bool} {n u : Nat} (h : lookup l bits = .found n u) : n ≤ bits.length ∧ fst l n ≤ u ∧ u < upTo l n ∧ hi n u = bits.take n :=
  (look_found 16 0 0 (by rw [upTo_zero]; exact Nat.le_refl _) (by rw [hi_zero]; rfl) h).2

end Go.Proofs.Ytobchlakjgeadaa
