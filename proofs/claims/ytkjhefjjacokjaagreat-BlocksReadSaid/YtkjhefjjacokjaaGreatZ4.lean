/-
  Plain mathematics of tokens: which are right, what they stand for, the longest copy for a place. Conditions: none. Nothing of the program stands here.
  Plain mathematics of bits: numbers, their bits (the lowest first), bytes of bits. Conditions: none. Nothing of the program stands here.
  Lengths of a code: their weight, how many words, what they make. Conditions: none. Nothing of the program stands here.
  Words of a code by its lengths: how many of each length, the first of each length, each sign's word, and that they fit. Conditions: none. Nothing of the program stands here.
  The signs that have words, in the words' order. Conditions: none. Nothing of the program stands here.
  Which word comes next among bits. Conditions: none. Nothing of the program stands here.
-/
import Derived.Laws.BitsAllLaws
import Derived.WalkKit
namespace Go.Proofs.YtkjhefjjacokjaaGreat

/-- A token. -/
structure Tok where
  lit : Nat
  len : Int
  dist : Int
deriving DecidableEq
/-- It is a token. -/
def rightT (t : Tok) : Bool := if t.len = 0 then decide (t.dist = 0) else decide (t.lit = 0 ∧ 3 ≤ t.len ∧ t.len ≤ 258 ∧ 1 ≤ t.dist ∧ t.dist ≤ 32768)
/-- What is wrong with a token behind n bytes. -/
def wrongT (t : Tok) (n : Nat) (most : Int) : Nat :=
  if rightT t = false then 5 else if (n : Int) < t.dist then 13 else if most - n < max t.len 1 then 3 else 0
/-- A copy of n bytes from d back, byte by byte. -/
def copyN (d : Nat) : Nat → List Nat → List Nat
  | 0, o => o
  | n + 1, o => copyN d n o ++ [(copyN d n o).getD ((copyN d n o).length - d) 0]
theorem copyN_length (d : Nat) : ∀ (n : Nat) (o : List Nat), (copyN d n o).length = o.length + n
  | 0, o => rfl
  | n + 1, o => by simp [copyN, copyN_length d n o]; omega
theorem copyN_lt (d : Nat) : ∀ (n : Nat) (o : List Nat), (∀ x ∈ o, x < 256) → ∀ x ∈ copyN d n o, x < 256
  | 0, o, h => h
  | n + 1, o, h => by
    intro x hx
    have ih := copyN_lt d n o h
    rcases List.mem_append.1 hx with hx | hx
    · exact ih x hx
    · obtain rfl := List.mem_singleton.1 hx
      by_cases hl : (copyN d n o).length - d < (copyN d n o).length
      · rw [List.getD, List.getElem?_eq_getElem hl]; exact ih _ (List.getElem_mem hl)
      · rw [List.getD, List.getElem?_eq_none (by omega)]; simp
/-- What a token adds. -/
def addT (t : Tok) (o : List Nat) : List Nat := if t.len = 0 then o ++ [t.lit] else copyN t.dist.toNat t.len.toNat o
/-- What tokens stand for: an error's number, and bytes. -/
def expT (most : Int) : List Tok → List Nat → Nat × List Nat
  | [], o => (0, o)
  | t :: l, o => if wrongT t o.length most = 0 then expT most l (addT t o) else (wrongT t o.length most, [])
theorem expT_cons_ok {most : Int} {t : Tok} {l : List Tok} {o : List Nat} (h : wrongT t o.length most = 0) : expT most (t :: l) o = expT most l (addT t o) := by simp [expT, h]
theorem expT_cons_er {most : Int} {t : Tok} {l : List Tok} {o : List Nat} (h : wrongT t o.length most ≠ 0) : expT most (t :: l) o = (wrongT t o.length most, []) := by simp [expT, h]
theorem expT_append {most : Int} {t : Tok} : ∀ {l : List Tok} {o p : List Nat}, expT most l o = (0, p) → wrongT t p.length most = 0 → expT most (l ++ [t]) o = (0, addT t p)
  | [], o, p, h, ht => by
    simp [expT] at h
    subst h
    simp [expT, ht]
  | u :: l, o, p, h, ht => by
    by_cases hu : wrongT u o.length most = 0
    · rw [expT_cons_ok hu] at h
      rw [List.cons_append, expT_cons_ok hu]
      exact expT_append h ht
    · rw [expT_cons_er hu] at h
      injection h with h1 h2
      exact absurd h1 hu
theorem addT_lt {t : Tok} {o : List Nat} (ht : t.lit < 256) (h : ∀ x ∈ o, x < 256) : ∀ x ∈ addT t o, x < 256 := by
  unfold addT
  split
  · intro x hx
    rcases List.mem_append.1 hx with hx | hx
    · exact h x hx
    · obtain rfl := List.mem_singleton.1 hx
      exact ht
  · exact copyN_lt _ _ _ h
theorem wrongT_ok {t : Tok} {n : Nat} {most : Int} (h : wrongT t n most = 0) : rightT t = true ∧ t.dist ≤ n ∧ max t.len 1 ≤ most - n := by
  unfold wrongT at h
  split at h
  · cases h
  · split at h
    · cases h
    · split at h
      · cases h
      · rename_i h1 h2 h3
        exact ⟨by simpa using h1, by omega, by omega⟩
theorem rightT_copy {t : Tok} (h : rightT t = true) (h0 : t.len ≠ 0) : t.lit = 0 ∧ 3 ≤ t.len ∧ t.len ≤ 258 ∧ 1 ≤ t.dist ∧ t.dist ≤ 32768 := by
  unfold rightT at h
  rw [if_neg h0] at h
  simpa using h
theorem addT_length {t : Tok} {o : List Nat} {most : Int} (h : wrongT t o.length most = 0) : ((addT t o).length : Int) = o.length + max t.len 1 ∧ (addT t o).length ≤ most := by
  obtain ⟨h1, h2, h3⟩ := wrongT_ok h
  unfold addT
  split
  · rename_i h0
    simp
    omega
  · rename_i h0
    have := rightT_copy h1 h0
    rw [copyN_length]
    omega
end Go.Proofs.YtkjhefjjacokjaaGreat

namespace Go.Proofs.YtkjhefjjacokjaaGreat

/-- The n lowest bits of v, the lowest first. -/
def bitsOf (v : Nat) : Nat → List Bool
  | 0 => []
  | n + 1 => (v % 2 == 1) :: bitsOf (v / 2) n
/-- What bits tell, the lowest first. -/
def num : List Bool → Nat
  | [] => 0
  | b :: l => (if b then 1 else 0) + 2 * num l
@[simp] theorem bitsOf_length (v n : Nat) : (bitsOf v n).length = n := by
  induction n generalizing v with
  | zero => rfl
  | succ n ih => simp [bitsOf, ih]

theorem num_lt (l : List Bool) : num l < 2 ^ l.length := by
  induction l with
  | nil => simp [num]
  | cons b l ih =>
    simp only [num, List.length_cons, Nat.pow_succ]
    split <;> omega
theorem num_append (a b : List Bool) : num (a ++ b) = num a + 2 ^ a.length * num b := by
  induction a with
  | nil => simp [num]
  | cons x a ih =>
    simp only [num, List.cons_append, List.length_cons, Nat.pow_succ, ih]
    rw [Nat.mul_add, ← Nat.mul_assoc, Nat.mul_comm (2 ^ a.length) 2]
    omega
theorem num_bitsOf (v n : Nat) : num (bitsOf v n) = v % 2 ^ n := by
  induction n generalizing v with
  | zero => simp [bitsOf, num, Nat.mod_one]
  | succ n ih =>
    simp only [bitsOf, num, ih]
    have h : v % 2 ^ (n + 1) = v % 2 + 2 * (v / 2 % 2 ^ n) := by
      rw [Nat.pow_succ, Nat.mul_comm (2 ^ n) 2, Nat.mod_mul]
    rw [h]
    have : v % 2 = 0 ∨ v % 2 = 1 := by omega
    rcases this with h | h <;> simp [h]
theorem bitsOf_add (v a b : Nat) : bitsOf v (a + b) = bitsOf v a ++ bitsOf (v / 2 ^ a) b := by
  induction a generalizing v with
  | zero => simp [bitsOf]
  | succ a ih =>
    rw [show a + 1 + b = (a + b) + 1 by omega]
    simp only [bitsOf, List.cons_append, ih]
    rw [Nat.div_div_eq_div_mul, Nat.pow_succ, Nat.mul_comm 2]
theorem bitsOf_succ (v a : Nat) : bitsOf v (a + 1) = bitsOf v a ++ [v / 2 ^ a % 2 == 1] := by
  rw [bitsOf_add]; rfl
theorem bitsOf_num (l : List Bool) : bitsOf (num l) l.length = l := by
  induction l with
  | nil => rfl
  | cons b l ih =>
    simp only [num, List.length_cons, bitsOf]
    have h1 : ((if b = true then 1 else 0) + 2 * num l) / 2 = num l := by split <;> omega
    rw [h1, ih]
    cases b <;> simp <;> omega
/-- Of bits the other way round. -/
def rev (v n : Nat) : Nat := num (bitsOf v n).reverse
theorem rev_lt (v n : Nat) : rev v n < 2 ^ n := by
  have := num_lt (bitsOf v n).reverse
  simpa [rev] using this
theorem rev_succ (v n : Nat) : rev v (n + 1) = v / 2 ^ n % 2 + 2 * rev v n := by
  unfold rev
  rw [bitsOf_succ, List.reverse_append]
  simp only [List.reverse_cons, List.reverse_nil, List.nil_append, List.cons_append, num]
  have : v / 2 ^ n % 2 = 0 ∨ v / 2 ^ n % 2 = 1 := by omega
  rcases this with h | h <;> simp [h]
theorem pow_le_32 {n : Nat} (h : n ≤ 32) : 2 ^ n ≤ 4294967296 := by
  have := Nat.pow_le_pow_right (n := 2) (by omega) h
  simpa using this
/-- The bytes of bits, the last one filled up. -/
def pack (l : List Bool) : List Nat := (List.range ((l.length + 7) / 8)).map fun i => num ((l.drop (8 * i)).take 8)
@[simp] theorem pack_length (l : List Bool) : (pack l).length = (l.length + 7) / 8 := by simp [pack]

theorem pack_get (l : List Bool) (i : Nat) (h : i < (l.length + 7) / 8) : (pack l)[i]? = some (num ((l.drop (8 * i)).take 8)) := by
  simp [pack, h]
theorem pack_lt (l : List Bool) : ∀ x ∈ pack l, x < 256 := by
  intro x hx
  simp only [pack, List.mem_map, List.mem_range] at hx
  obtain ⟨i, _, rfl⟩ := hx
  have h := num_lt ((l.drop (8 * i)).take 8)
  have h2 : ((l.drop (8 * i)).take 8).length ≤ 8 := List.length_take_le _ _
  have := Nat.pow_le_pow_right (n := 2) (by omega) h2
  omega
theorem pack_full (l : List Bool) : (pack l).take (l.length / 8) ++ (if l.length % 8 = 0 then [] else [num (l.drop (8 * (l.length / 8)))]) = pack l := by
  have hl := pack_length l
  split
  · rw [List.append_nil]; exact List.take_of_length_le (by omega)
  · have h : l.length / 8 < (pack l).length := by omega
    have h2 := pack_get l (l.length / 8) (by omega)
    rw [List.getElem?_eq_getElem h] at h2
    have h3 : ((l.drop (8 * (l.length / 8))).take 8) = l.drop (8 * (l.length / 8)) := List.take_of_length_le (by simp; omega)
    rw [h3] at h2
    have h4 := List.take_succ_eq_append_getElem h
    rw [List.take_of_length_le (by omega)] at h4
    rw [h4, Option.some.inj h2]
    congr 1
    rw [List.take_append_of_le_length (by simp; omega), List.take_take, Nat.min_self]
theorem pack_more (l m : List Bool) (hm : 0 < m.length) (h8 : l.length % 8 + m.length ≤ 8) :
    pack (l ++ m) = (pack l).take (l.length / 8) ++ [num (l.drop (8 * (l.length / 8))) + 2 ^ (l.length % 8) * num m] := by
  have hl := pack_length l
  apply List.ext_getElem?
  intro i
  by_cases hi : i < l.length / 8
  · rw [pack_get _ _ (by simp; omega), List.getElem?_append_left (by simp; omega), List.getElem?_take, if_pos hi, pack_get _ _ (by omega)]
    rw [List.drop_append_of_le_length (by omega), List.take_append_of_le_length (by simp; omega)]
  · by_cases hi2 : i = l.length / 8
    · subst hi2
      rw [pack_get _ _ (by simp; omega), List.getElem?_append_right (by simp; omega)]
      have : (List.take (l.length / 8) (pack l)).length = l.length / 8 := by simp; omega
      rw [this, Nat.sub_self]
      simp only [List.getElem?_cons_zero, Option.some.injEq]
      rw [List.drop_append_of_le_length (by omega), List.take_of_length_le (by simp; omega), num_append]
      rw [show (l.drop (8 * (l.length / 8))).length = l.length % 8 by simp; omega]
    · rw [List.getElem?_eq_none (by simp; omega), List.getElem?_eq_none (by simp; omega)]
/-- The bits of bytes. -/
def unpack (bs : List Nat) : List Bool := bs.flatMap fun b => bitsOf b 8
@[simp] theorem unpack_length (bs : List Nat) : (unpack bs).length = 8 * bs.length := by
  induction bs with
  | nil => rfl
  | cons b bs ih =>
    have : unpack (b :: bs) = bitsOf b 8 ++ unpack bs := rfl
    rw [this]; simp [ih]; omega

theorem bitsOf_take (v a b : Nat) : (bitsOf v (a + b)).take a = bitsOf v a := by
  rw [bitsOf_add, List.take_append_of_le_length (by simp), List.take_of_length_le (by simp)]
theorem num_part (X : List Bool) (i p : Nat) (h : i ≤ X.length) : num (X.take (i + p)) = num (X.take i) + 2 ^ i * num ((X.drop i).take p) := by
  rw [List.take_add, num_append]
  simp [Nat.min_eq_left h]
end Go.Proofs.YtkjhefjjacokjaaGreat

namespace Go.Proofs.YtkjhefjjacokjaaGreat

def Ok (l : List Int) : Prop := ∀ x ∈ l, 0 ≤ x ∧ x ≤ 15
instance (l : List Int) : Decidable (Ok l) := by unfold Ok; exact inferInstance
def wt (x : Int) : Nat := if x = 0 then 0 else 2 ^ (15 - x.toNat)
def weight : List Int → Nat
  | [] => 0
  | x :: l => wt x + weight l
def words : List Int → Nat
  | [] => 0
  | x :: l => (if x = 0 then 0 else 1) + words l
def ones : List Int → Nat
  | [] => 0
  | x :: l => (if x = 1 then 1 else 0) + ones l
def kindOf (l : List Int) : Nat :=
  if Ok l then (if words l = 0 then 1 else if words l = 1 ∧ weight l = 16384 then 2 else if weight l = 32768 then 3 else 0) else 0
theorem weight_append (a b : List Int) : weight (a ++ b) = weight a + weight b := by
  induction a with
  | nil => simp [weight]
  | cons x a ih => simp [weight, ih]; omega
theorem words_append (a b : List Int) : words (a ++ b) = words a + words b := by
  induction a with
  | nil => simp [words]
  | cons x a ih => simp [words, ih]; omega
theorem ones_append (a b : List Int) : ones (a ++ b) = ones a + ones b := by
  induction a with
  | nil => simp [ones]
  | cons x a ih => simp [ones, ih]; omega
theorem take_snoc {α : Type} (l : List α) (k : Nat) (h : k < l.length) : l.take (k + 1) = l.take k ++ [l[k]] := by
  rw [List.take_add_one, List.getElem?_eq_getElem h]; rfl
theorem weight_take (l : List Int) (k : Nat) (h : k < l.length) : weight (l.take (k + 1)) = weight (l.take k) + wt l[k] := by
  rw [take_snoc l k h, weight_append]; simp [weight]
theorem words_take (l : List Int) (k : Nat) (h : k < l.length) : words (l.take (k + 1)) = words (l.take k) + (if l[k] = 0 then 0 else 1) := by
  rw [take_snoc l k h, words_append]; simp [words]
theorem ones_take (l : List Int) (k : Nat) (h : k < l.length) : ones (l.take (k + 1)) = ones (l.take k) + (if l[k] = 1 then 1 else 0) := by
  rw [take_snoc l k h, ones_append]; simp [ones]
theorem ok_take (l : List Int) (k : Nat) (h : k < l.length) : Ok (l.take (k + 1)) ↔ Ok (l.take k) ∧ 0 ≤ l[k] ∧ l[k] ≤ 15 := by
  rw [take_snoc l k h]
  simp only [Ok, List.mem_append, List.mem_singleton]
  constructor
  · intro h
    exact ⟨fun x hx => h x (.inl hx), h _ (.inr rfl)⟩
  · rintro ⟨h1, h2⟩ x (hx | rfl)
    · exact h1 x hx
    · exact h2
theorem not_ok {l : List Int} {k : Nat} (h : k < l.length) (hx : ¬ (0 ≤ l[k] ∧ l[k] ≤ 15)) : ¬ Ok l := fun hl => hx (hl _ (List.getElem_mem h))
theorem weight_le_take (l : List Int) (k : Nat) : weight (l.take k) ≤ weight l := by
  conv => rhs; rw [← List.take_append_drop k l, weight_append]
  omega
theorem words_le (l : List Int) : words l ≤ l.length := by
  induction l with
  | nil => simp [words]
  | cons x l ih => simp only [words, List.length_cons]; split <;> omega
theorem ones_le (l : List Int) : ones l ≤ l.length := by
  induction l with
  | nil => simp [ones]
  | cons x l ih => simp only [ones, List.length_cons]; split <;> omega
theorem wt_le (x : Int) : wt x ≤ 32768 := by
  unfold wt
  split
  · omega
  · exact Nat.pow_le_pow_right (n := 2) (i := 15 - x.toNat) (j := 15) (by omega) (by omega)
theorem weight_le (l : List Int) : weight l ≤ 32768 * l.length := by
  induction l with
  | nil => simp [weight]
  | cons x l ih => simp only [weight, List.length_cons]; have := wt_le x; omega
theorem words_zero (l : List Int) (h : words l = 0) : weight l = 0 ∧ ones l = 0 := by
  induction l with
  | nil => simp [weight, ones]
  | cons x l ih =>
    simp only [words] at h
    split at h
    · next hx => subst hx; have := ih (by omega); simp [weight, ones, wt, this]
    · omega
theorem wt_one (x : Int) (h0 : 0 ≤ x) (h : x ≤ 15) : wt x = 16384 ↔ x = 1 := by
  obtain ⟨m, rfl⟩ := Int.eq_ofNat_of_zero_le h0
  have : m = 0 ∨ m = 1 ∨ m = 2 ∨ m = 3 ∨ m = 4 ∨ m = 5 ∨ m = 6 ∨ m = 7 ∨ m = 8 ∨ m = 9 ∨ m = 10 ∨ m = 11 ∨ m = 12 ∨ m = 13 ∨ m = 14 ∨ m = 15 := by omega
  rcases this with rfl | rfl | rfl | rfl | rfl | rfl | rfl | rfl | rfl | rfl | rfl | rfl | rfl | rfl | rfl | rfl <;> decide
theorem wt_lt (x : Int) (h0 : 0 ≤ x) : wt x ≤ 16384 := by
  unfold wt
  split
  · omega
  · exact Nat.pow_le_pow_right (n := 2) (i := 15 - x.toNat) (j := 14) (by omega) (by omega)
theorem words_one (l : List Int) (hl : Ok l) (h : words l = 1) : (weight l = 16384 ↔ ones l = 1) ∧ weight l ≤ 16384 := by
  induction l with
  | nil => simp [words] at h
  | cons x l ih =>
    have hl' : Ok l := fun y hy => hl y (List.mem_cons_of_mem _ hy)
    obtain ⟨hx0, hx1⟩ := hl x (List.mem_cons_self)
    simp only [words] at h
    split at h
    · next hx => subst hx; have := ih hl' (by omega); simpa [weight, ones, wt] using this
    · have := words_zero l (by omega)
      have hw := wt_one x hx0 hx1
      have hw2 := wt_lt x hx0
      simp only [weight, ones, this.1, this.2, Nat.add_zero]
      refine ⟨?_, hw2⟩
      rw [hw]
      split <;> simp_all
/-- Weight above the whole: wrong, whatever comes behind. -/
theorem kind_over (l : List Int) (k : Nat) (h : 32768 < weight (l.take k)) : kindOf l = 0 := by
  have h1 := weight_le_take l k
  unfold kindOf
  split
  · next hl =>
    rw [if_neg, if_neg, if_neg]
    · omega
    · rintro ⟨h2, h3⟩; omega
    · intro h2; have := (words_zero l h2).1; omega
  · rfl
/-- As the document says it. -/
theorem kind_doc (l : List Int) : kindOf l = if Ok l then (if words l = 0 then 1 else if words l = 1 ∧ ones l = 1 then 2 else if weight l = 32768 then 3 else 0) else 0 := by
  unfold kindOf
  by_cases hl : Ok l
  · simp only [hl, if_true]
    by_cases h0 : words l = 0
    · simp [h0]
    · by_cases h1 : words l = 1
      · have := words_one l hl h1
        simp only [h1, true_and, this.1]
      · simp [h1]
  · simp [hl]
end Go.Proofs.YtkjhefjjacokjaaGreat

namespace Go.Proofs.YtkjhefjjacokjaaGreat

/-- How many words of n bits. -/
def ct (n : Nat) : List Int → Nat
  | [] => 0
  | x :: l => (if x = n ∧ n ≠ 0 then 1 else 0) + ct n l
/-- The first word of n bits. -/
def fst (l : List Int) : Nat → Nat
  | 0 => 0
  | n + 1 => 2 * (fst l n + ct n l)
/-- How many words of fewer bits. -/
def bas (l : List Int) : Nat → Nat
  | 0 => 0
  | n + 1 => bas l n + ct n l
def upTo (l : List Int) (n : Nat) : Nat := fst l n + ct n l
/-- The length of a sign's word; its word's number. -/
def len (l : List Int) (j : Nat) : Nat := (l.getD j 0).toNat
def wv (l : List Int) (j : Nat) : Nat := fst l (len l j) + ct (len l j) (l.take j)
theorem ct_zero (l : List Int) : ct 0 l = 0 := by
  induction l with
  | nil => rfl
  | cons x l ih => simp [ct, ih]
theorem ct_append (n : Nat) (a b : List Int) : ct n (a ++ b) = ct n a + ct n b := by
  induction a with
  | nil => simp [ct]
  | cons x a ih => simp [ct, ih]; omega
theorem ct_take (n : Nat) (l : List Int) (k : Nat) (h : k < l.length) : ct n (l.take (k + 1)) = ct n (l.take k) + (if l[k] = n ∧ n ≠ 0 then 1 else 0) := by
  rw [take_snoc l k h, ct_append]; simp [ct]
theorem ct_take_le (n : Nat) (l : List Int) (k : Nat) : ct n (l.take k) ≤ ct n l := by
  conv => rhs; rw [← List.take_append_drop k l, ct_append]
  omega
theorem ct_take_mono (n : Nat) (l : List Int) {i j : Nat} (h : i ≤ j) : ct n (l.take i) ≤ ct n (l.take j) := by
  have := ct_take_le n (l.take j) i
  rwa [List.take_take, Nat.min_eq_left h] at this
theorem ct_le (n : Nat) (l : List Int) : ct n l ≤ l.length := by
  induction l with
  | nil => simp [ct]
  | cons x l ih => simp only [ct, List.length_cons]; split <;> omega
theorem ct_take_self (n : Nat) (l : List Int) (j : Nat) (h : j < l.length) (hx : l[j] = n) (h0 : n ≠ 0) : ct n (l.take j) < ct n l := by
  have h1 := ct_take n l j h
  rw [if_pos ⟨hx, h0⟩] at h1
  have := ct_take_le n l (j + 1)
  omega
theorem ct_find (n : Nat) (l : List Int) (r : Nat) : ∀ k, k ≤ l.length → r < ct n (l.take k) → ∃ i, ∃ h : i < l.length, i < k ∧ l[i] = n ∧ n ≠ 0 ∧ ct n (l.take i) = r
  | 0, _, h => by simp [ct] at h
  | k + 1, hk, h => by
    have h1 := ct_take n l k (by omega)
    by_cases h2 : r < ct n (l.take k)
    · obtain ⟨i, hi, a, b⟩ := ct_find n l r k (by omega) h2
      exact ⟨i, hi, by omega, b⟩
    · split at h1
      · next h3 => exact ⟨k, by omega, by omega, h3.1, h3.2, by omega⟩
      · omega
theorem ct_found (n : Nat) (l : List Int) (r : Nat) (h : r < ct n l) : ∃ i, ∃ h : i < l.length, l[i] = n ∧ n ≠ 0 ∧ ct n (l.take i) = r := by
  obtain ⟨i, hi, _, b⟩ := ct_find n l r l.length (Nat.le_refl _) (by rwa [List.take_length])
  exact ⟨i, hi, b⟩
theorem ct_inj (n : Nat) (l : List Int) (i j : Nat) (hi : i < l.length) (hj : j < l.length) (h0 : n ≠ 0) (hx : l[i] = n) (hy : l[j] = n) (h : ct n (l.take i) = ct n (l.take j)) : i = j := by
  rcases Nat.lt_trichotomy i j with h1 | h1 | h1
  · have a := ct_take n l i hi
    have b := ct_take_mono n l (show i + 1 ≤ j by omega)
    rw [if_pos ⟨hx, h0⟩] at a
    omega
  · exact h1
  · have a := ct_take n l j hj
    have b := ct_take_mono n l (show j + 1 ≤ i by omega)
    rw [if_pos ⟨hy, h0⟩] at a
    omega
/-- The weight of the words of at most n bits. -/
def pw (n : Nat) : List Int → Nat
  | [] => 0
  | x :: l => (if 1 ≤ x ∧ x ≤ n then 2 ^ (15 - x.toNat) else 0) + pw n l
theorem pw_succ (n : Nat) (l : List Int) : pw (n + 1) l = pw n l + ct (n + 1) l * 2 ^ (15 - (n + 1)) := by
  induction l with
  | nil => simp [pw, ct]
  | cons x l ih =>
    simp only [pw, ct, ih, Nat.add_mul]
    by_cases h : x = ((n + 1 : Nat) : Int)
    · rw [if_pos (by omega), if_neg (by omega), if_pos ⟨h, by omega⟩, h, Int.toNat_natCast]
      omega
    · rw [if_neg (c := x = ((n + 1 : Nat) : Int) ∧ n + 1 ≠ 0) (by omega)]
      by_cases h2 : 1 ≤ x ∧ x ≤ n
      · rw [if_pos (by omega), if_pos h2]; omega
      · rw [if_neg (by omega), if_neg h2]; omega
theorem pw_zero (l : List Int) : pw 0 l = 0 := by
  induction l with
  | nil => rfl
  | cons x l ih => simp only [pw, ih]; rw [if_neg (by omega)]
theorem upTo_succ (l : List Int) (n : Nat) : upTo l (n + 1) = 2 * upTo l n + ct (n + 1) l := rfl
theorem upTo_zero (l : List Int) : upTo l 0 = 0 := by simp [upTo, fst, ct_zero]
theorem upTo_pw (l : List Int) : ∀ n, n ≤ 15 → upTo l n * 2 ^ (15 - n) = pw n l
  | 0, _ => by rw [upTo_zero, pw_zero, Nat.zero_mul]
  | n + 1, h => by
    rw [upTo_succ, pw_succ, ← upTo_pw l n (by omega), Nat.add_mul, show 15 - n = (15 - (n + 1)) + 1 by omega, Nat.pow_succ]
    generalize 2 ^ (15 - (n + 1)) = p
    rw [Nat.mul_comm 2, Nat.mul_assoc, Nat.mul_comm 2]
theorem pw_le (n : Nat) (l : List Int) (hl : Ok l) : pw n l ≤ weight l := by
  induction l with
  | nil => simp [pw, weight]
  | cons x l ih =>
    have hx := hl x List.mem_cons_self
    have := ih fun y hy => hl y (List.mem_cons_of_mem _ hy)
    simp only [pw, weight, wt]
    by_cases h : x = 0
    · subst h; simp; exact this
    · rw [if_neg h]; generalize 2 ^ (15 - x.toNat) = p; split <;> omega
theorem pw_all (l : List Int) (hl : Ok l) : pw 15 l = weight l := by
  induction l with
  | nil => rfl
  | cons x l ih =>
    have hx := hl x List.mem_cons_self
    simp only [pw, weight, wt, ih fun y hy => hl y (List.mem_cons_of_mem _ hy)]
    by_cases h : x = 0
    · subst h; simp
    · rw [if_neg h, if_pos (by omega)]
theorem right_ok {l : List Int} (h : kindOf l ≠ 0) : Ok l := by
  unfold kindOf at h
  split at h
  · assumption
  · exact absurd rfl h
theorem right_weight {l : List Int} (h : kindOf l ≠ 0) : weight l ≤ 32768 := by
  have hl := right_ok h
  unfold kindOf at h
  rw [if_pos hl] at h
  split at h
  · next h1 => have := (words_zero l h1).1; omega
  · split at h
    · omega
    · split at h
      · omega
      · exact absurd rfl h
theorem upTo_le {l : List Int} (h : kindOf l ≠ 0) (n : Nat) (hn : n ≤ 15) : upTo l n ≤ 2 ^ n := by
  have h1 := upTo_pw l n hn
  have h2 := pw_le n l (right_ok h)
  have h3 := right_weight h
  have h4 : upTo l n * 2 ^ (15 - n) ≤ 2 ^ n * 2 ^ (15 - n) := by
    rw [← Nat.pow_add, show n + (15 - n) = 15 by omega]
    omega
  exact Nat.le_of_mul_le_mul_right h4 (Nat.two_pow_pos _)
theorem len_le {l : List Int} (h : Ok l) (j : Nat) : len l j ≤ 15 := by
  unfold len
  by_cases hj : j < l.length
  · simp only [List.getD, List.getElem?_eq_getElem hj, Option.getD_some]
    have := h _ (List.getElem_mem hj)
    omega
  · simp [List.getD, List.getElem?_eq_none (Nat.le_of_not_lt hj)]
theorem len_eq {l : List Int} (h : Ok l) (j : Nat) (hj : j < l.length) : l[j] = (len l j : Int) := by
  simp only [len, List.getD, List.getElem?_eq_getElem hj, Option.getD_some]
  have := h _ (List.getElem_mem hj)
  omega
theorem wv_none (l : List Int) (j : Nat) (h : len l j = 0) : wv l j = 0 := by simp [wv, h, fst, ct_zero]
theorem wv_lt {l : List Int} (h : kindOf l ≠ 0) (j : Nat) (hj : j < l.length) (h0 : len l j ≠ 0) : wv l j < upTo l (len l j) := by
  have := ct_take_self (len l j) l j hj (len_eq (right_ok h) j hj) h0
  unfold wv upTo
  omega
theorem wv_small {l : List Int} (h : kindOf l ≠ 0) (j : Nat) (hj : j < l.length) : wv l j < 2 ^ len l j ∨ len l j = 0 := by
  by_cases h0 : len l j = 0
  · exact .inr h0
  · have h1 := wv_lt h j hj h0
    have h2 := upTo_le h (len l j) (len_le (right_ok h) j)
    exact .inl (by omega)
theorem wv_32768 {l : List Int} (h : kindOf l ≠ 0) (j : Nat) (hj : j < l.length) : wv l j < 32768 := by
  rcases wv_small h j hj with h1 | h1
  · have := Nat.pow_le_pow_right (n := 2) (i := len l j) (j := 15) (by omega) (len_le (right_ok h) j)
    omega
  · rw [wv_none l j h1]; omega
/-- A number's bits, the highest first. -/
def hi (n v : Nat) : List Bool := (bitsOf v n).reverse
@[simp] theorem hi_length (n v : Nat) : (hi n v).length = n := by
  simp [hi]
theorem hi_zero (v : Nat) : hi 0 v = [] := List.eq_nil_of_length_eq_zero (by simp)
theorem hi_snoc (n v : Nat) : hi (n + 1) v = hi n (v / 2) ++ [v % 2 == 1] := by
  unfold hi
  rw [Nat.add_comm n 1, bitsOf_add]
  simp [bitsOf]
theorem hi_double (n v : Nat) : hi (n + 1) (2 * v) = hi n v ++ [false] := by
  rw [hi_snoc, show 2 * v / 2 = v by omega, show 2 * v % 2 = 0 by omega]; rfl
theorem hi_bit (n v : Nat) (b : Bool) : hi (n + 1) (2 * v + b.toNat) = hi n v ++ [b] := by
  rw [hi_snoc]
  cases b
  · rw [show (2 * v + Bool.toNat false) / 2 = v by simp, show (2 * v + Bool.toNat false) % 2 = 0 by simp]; rfl
  · rw [show (2 * v + Bool.toNat true) / 2 = v by simp; omega, show (2 * v + Bool.toNat true) % 2 = 1 by simp]; rfl
theorem num_rev_hi (n v : Nat) : num (hi n v).reverse = v % 2 ^ n := by simp [hi, num_bitsOf]
theorem hi_inj (n v u : Nat) (h : hi n v = hi n u) (hv : v < 2 ^ n) (hu : u < 2 ^ n) : v = u := by
  have := congrArg (fun x => num x.reverse) h
  simp only [num_rev_hi] at this
  rwa [Nat.mod_eq_of_lt hv, Nat.mod_eq_of_lt hu] at this
/-- A sign's word as bits. -/
def wb (l : List Int) (j : Nat) : List Bool := hi (len l j) (wv l j)
@[simp] theorem wb_length (l : List Int) (j : Nat) : (wb l j).length = len l j := by simp [wb]
theorem wb_inj {l : List Int} (h : kindOf l ≠ 0) (i j : Nat) (hi' : i < l.length) (hj : j < l.length) (h0 : len l i ≠ 0) (he : wb l i = wb l j) : i = j := by
  have hl : len l i = len l j := by have := congrArg List.length he; simpa using this
  unfold wb at he
  rw [← hl] at he
  have a := (wv_small h i hi').resolve_right h0
  have b := (wv_small h j hj).resolve_right (by omega)
  have e := hi_inj _ _ _ he a (by rw [hl]; exact b)
  unfold wv at e
  rw [← hl] at e
  exact ct_inj (len l i) l i j hi' hj h0 (len_eq (right_ok h) i hi') (by rw [hl]; exact len_eq (right_ok h) j hj) (by omega)
/-- How many words of at most n bits. -/
def nw (n : Nat) : List Int → Nat
  | [] => 0
  | x :: l => (if 1 ≤ x ∧ x ≤ n then 1 else 0) + nw n l
theorem nw_succ (n : Nat) (l : List Int) : nw (n + 1) l = nw n l + ct (n + 1) l := by
  induction l with
  | nil => rfl
  | cons x l ih =>
    simp only [nw, ct, ih]
    by_cases h : x = ((n + 1 : Nat) : Int)
    · rw [if_pos (by omega), if_neg (by omega), if_pos ⟨h, by omega⟩]; omega
    · rw [if_neg (c := x = ((n + 1 : Nat) : Int) ∧ n + 1 ≠ 0) (by omega)]
      by_cases h2 : 1 ≤ x ∧ x ≤ n
      · rw [if_pos (by omega), if_pos h2]; omega
      · rw [if_neg (by omega), if_neg h2]; omega
theorem nw_zero (l : List Int) : nw 0 l = 0 := by
  induction l with
  | nil => rfl
  | cons x l ih => simp only [nw, ih]; rw [if_neg (by omega)]
theorem bas_nw (l : List Int) : ∀ n, bas l (n + 1) = nw n l
  | 0 => by simp [bas, ct_zero, nw_zero]
  | n + 1 => by rw [bas, bas_nw l n, nw_succ]
theorem nw_all (l : List Int) (hl : Ok l) : nw 15 l = words l := by
  induction l with
  | nil => rfl
  | cons x l ih =>
    have hx := hl x List.mem_cons_self
    simp only [nw, words, ih fun y hy => hl y (List.mem_cons_of_mem _ hy)]
    by_cases h : x = 0
    · subst h; simp
    · rw [if_neg h, if_pos (by omega)]
theorem bas_words (l : List Int) (h : Ok l) : bas l 16 = words l := by rw [bas_nw, nw_all l h]
theorem bas_mono (l : List Int) {a b : Nat} (h : a ≤ b) : bas l a ≤ bas l b := by
  induction b with
  | zero => rw [Nat.le_zero.1 h]; exact Nat.le_refl _
  | succ b ih =>
    rcases Nat.lt_or_ge b a with h1 | h1
    · rw [show a = b + 1 by omega]; exact Nat.le_refl _
    · have := ih h1
      simp only [bas]
      omega
end Go.Proofs.YtkjhefjjacokjaaGreat

namespace Go.Proofs.YtkjhefjjacokjaaGreat

/-- A sign's place among all words. -/
def pos (l : List Int) (j : Nat) : Nat := bas l (len l j) + ct (len l j) (l.take j)
/-- The row of signs, when the first k signs have been looked at. -/
def sg (l : List Int) : Nat → Nat → Nat
  | 0, _ => 0
  | k + 1, p => if len l k ≠ 0 ∧ p = pos l k then k else sg l k p
theorem pos_lt {l : List Int} (h : Ok l) (j : Nat) (hj : j < l.length) (h0 : len l j ≠ 0) : pos l j < words l := by
  have h1 := ct_take_self (len l j) l j hj (len_eq h j hj) h0
  have h2 := len_le h j
  have h3 := bas_mono l (show len l j + 1 ≤ 16 by omega)
  rw [bas_words l h] at h3
  simp only [bas] at h3
  unfold pos
  omega
theorem pos_inj {l : List Int} (h : Ok l) (i j : Nat) (hi : i < l.length) (hj : j < l.length) (hi0 : len l i ≠ 0) (hj0 : len l j ≠ 0) (he : pos l i = pos l j) : i = j := by
  have a := ct_take_self (len l i) l i hi (len_eq h i hi) hi0
  have b := ct_take_self (len l j) l j hj (len_eq h j hj) hj0
  unfold pos at he
  rcases Nat.lt_trichotomy (len l i) (len l j) with h1 | h1 | h1
  · have := bas_mono l (show len l i + 1 ≤ len l j by omega)
    simp only [bas] at this
    omega
  · rw [h1] at he
    exact ct_inj (len l j) l i j hi hj hj0 (by rw [← h1]; exact len_eq h i hi) (len_eq h j hj) (by omega)
  · have := bas_mono l (show len l j + 1 ≤ len l i by omega)
    simp only [bas] at this
    omega
theorem sg_at {l : List Int} (h : Ok l) : ∀ k, k ≤ l.length → ∀ j, j < k → len l j ≠ 0 → sg l k (pos l j) = j
  | 0, _, j, hj, _ => absurd hj (Nat.not_lt_zero _)
  | k + 1, hk, j, hj, h0 => by
    simp only [sg]
    by_cases hjk : j = k
    · subst hjk; rw [if_pos ⟨h0, rfl⟩]
    · rw [if_neg, sg_at h k (by omega) j (by omega) h0]
      rintro ⟨h1, h2⟩
      exact hjk (pos_inj h j k (by omega) (by omega) h0 h1 h2)
end Go.Proofs.YtkjhefjjacokjaaGreat

namespace Go.Proofs.YtkjhefjjacokjaaGreat

/-- What comes next: a word of n bits whose number is v; bits that are no word's beginning; the end. -/
inductive Look where
  | found (n v : Nat)
  | code
  | fin
/-- k bits have been read, their number is v; they are no word. -/
def look (l : List Int) (bits : List Bool) : Nat → Nat → Nat → Look
  | 0, _, _ => .code
  | f + 1, k, v =>
    if words l ≤ bas l (k + 1) then .code
    else match bits[k]? with
      | none => .fin
      | some b => if 2 * v + b.toNat < upTo l (k + 1) then .found (k + 1) (2 * v + b.toNat) else look l bits f (k + 1) (2 * v + b.toNat)
def lookup (l : List Int) (bits : List Bool) : Look := look l bits 16 0 0
theorem look_code {l : List Int} {bits : List Bool} {f k v : Nat} (h : words l ≤ bas l (k + 1)) : look l bits (f + 1) k v = .code := by simp only [look]; rw [if_pos h]
theorem look_fin {l : List Int} {bits : List Bool} {f k v : Nat} (h : ¬ words l ≤ bas l (k + 1)) (hb : bits.length ≤ k) : look l bits (f + 1) k v = .fin := by
  simp only [look]; rw [if_neg h, List.getElem?_eq_none hb]
theorem look_step {l : List Int} {bits : List Bool} {f k v : Nat} (h : ¬ words l ≤ bas l (k + 1)) (hb : k < bits.length) :
    look l bits (f + 1) k v = if 2 * v + bits[k].toNat < upTo l (k + 1) then .found (k + 1) (2 * v + bits[k].toNat) else look l bits f (k + 1) (2 * v + bits[k].toNat) := by
  simp only [look]; rw [if_neg h, List.getElem?_eq_getElem hb]
/-- The sign of a word's number. -/
theorem sign_of {l : List Int} (h : kindOf l ≠ 0) (n v : Nat) (h1 : fst l n ≤ v) (h2 : v < upTo l n) : ∃ j, j < l.length ∧ len l j = n ∧ n ≠ 0 ∧ wv l j = v ∧ pos l j = bas l n + (v - fst l n) := by
  obtain ⟨j, hj, a, b, c⟩ := ct_found n l (v - fst l n) (by unfold upTo at h2; omega)
  have e : len l j = n := by
    have := len_eq (right_ok h) j hj
    omega
  exact ⟨j, hj, e, b, by unfold wv; rw [e, c]; omega, by unfold pos; rw [e, c]⟩
theorem hi_take (k d v : Nat) : (hi (k + d) v).take k = hi k (v / 2 ^ d) := by
  induction d generalizing v with
  | zero => rw [List.take_of_length_le (by simp)]; simp
  | succ d ih =>
    rw [← Nat.add_assoc, hi_snoc, List.take_append_of_le_length (by simp), ih, Nat.pow_succ, Nat.mul_comm, Nat.div_div_eq_div_mul]
theorem pow_le15 {k : Nat} (h : k ≤ 15) : 2 ^ k ≤ 32768 := Nat.pow_le_pow_right (n := 2) (i := k) (j := 15) (by omega) h
theorem ct_ones (l : List Int) : ct 1 l = ones l := by
  induction l with
  | nil => rfl
  | cons x l ih => simp only [ct, ones, ih]; simp
theorem word_some (l : List Int) (hok : Ok l) (h : 0 < words l) : ∃ j, j < l.length ∧ 0 < len l j := by
  induction l with
  | nil => simp [words] at h
  | cons x l ih =>
    by_cases hx : x = 0
    · obtain ⟨j, a, b⟩ := ih (fun y hy => hok y (List.mem_cons_of_mem _ hy)) (by simpa [words, hx] using h)
      exact ⟨j + 1, by simpa using a, by simpa [len] using b⟩
    · have := hok x List.mem_cons_self
      exact ⟨0, by simp, by simp [len]; omega⟩
/-- Bits that are no word, while there are longer words: a longer one begins with them. -/
theorem cover {l : List Int} (h : kindOf l ≠ 0) (k v : Nat) (hk : k ≤ 15) (hv : v < 2 ^ k) (hu : upTo l k ≤ v) (hw : bas l (k + 1) < words l) :
    ∃ j, j < l.length ∧ k < len l j ∧ (wb l j).take k = hi k v := by
  have hok := right_ok h
  have h3 := h
  unfold kindOf at h3
  rw [if_pos hok] at h3
  split at h3
  · omega
  · split at h3
    · next h4 h5 =>
      -- one word alone, of one bit
      have hb : bas l (k + 1) = 0 := by omega
      have h6 : k = 0 := by
        rcases Nat.eq_zero_or_pos k with h6 | h6
        · exact h6
        · exfalso
          have h7 := bas_mono l (show 2 ≤ k + 1 by omega)
          have h8 := (words_one l hok h5.1).1.1 h5.2
          have h9 := ct_ones l
          have h10 : bas l 2 = bas l 1 + ct 1 l := rfl
          omega
      subst h6
      obtain ⟨j, a, b⟩ := word_some l hok (by omega)
      exact ⟨j, a, b, by simp [hi_zero]⟩
    · split at h3
      · next h4 h5 h6 =>
        have h7 := upTo_pw l 15 (Nat.le_refl _)
        rw [pw_all l hok, h6] at h7
        -- the least length at which the words go beyond those bits
        have key : ∀ d, k + d ≤ 15 → (∃ j, j < l.length ∧ k < len l j ∧ (wb l j).take k = hi k v) ∨ upTo l (k + d) ≤ v * 2 ^ d := by
          intro d
          induction d with
          | zero => intro _; exact .inr (by simpa using hu)
          | succ d ih =>
            intro hd
            rcases ih (by omega) with ih | ih
            · exact .inl ih
            · by_cases hx : upTo l (k + (d + 1)) ≤ v * 2 ^ (d + 1)
              · exact .inr hx
              · left
                have e1 : fst l (k + (d + 1)) = 2 * upTo l (k + d) := rfl
                have e2 : v * 2 ^ (d + 1) = 2 * (v * 2 ^ d) := by rw [Nat.pow_succ]; rw [← Nat.mul_assoc, Nat.mul_comm]
                obtain ⟨j, a, b, c, e, _⟩ := sign_of h (k + (d + 1)) (v * 2 ^ (d + 1)) (by omega) (by omega)
                refine ⟨j, a, by omega, ?_⟩
                unfold wb
                rw [b, e, hi_take, Nat.mul_div_cancel _ (Nat.two_pow_pos _)]
        rcases key (15 - k) (by omega) with h8 | h8
        · exact h8
        · exfalso
          rw [show k + (15 - k) = 15 by omega] at h8
          have h9 : v * 2 ^ (15 - k) < 2 ^ k * 2 ^ (15 - k) := Nat.mul_lt_mul_of_pos_right hv (Nat.two_pow_pos _)
          rw [← Nat.pow_add, show k + (15 - k) = 15 by omega] at h9
          simp at h7
          omega
      · exact absurd rfl h3
/-- A longer word is beyond those of at most k bits. -/
theorem longer {l : List Int} (h : Ok l) (k j : Nat) (hj : j < l.length) (hk : k < len l j) : bas l (k + 1) < words l := by
  have h1 := pos_lt h j hj (by omega)
  have h2 := bas_mono l (show k + 1 ≤ len l j by omega)
  unfold pos at h1
  omega
theorem look_found {l : List Int} {bits : List Bool} {n u : Nat} : ∀ f k v, upTo l k ≤ v → hi k v = bits.take k → look l bits f k v = .found n u →
    k < n ∧ n ≤ bits.length ∧ fst l n ≤ u ∧ u < upTo l n ∧ hi n u = bits.take n
  | 0, k, v, _, _, h => by simp [look] at h
  | f + 1, k, v, h1, h2, h => by
    by_cases hw : words l ≤ bas l (k + 1)
    · rw [look_code hw] at h; cases h
    · by_cases hb : k < bits.length
      · have e : hi (k + 1) (2 * v + bits[k].toNat) = bits.take (k + 1) := by rw [hi_bit, h2, take_snoc bits k hb]
        rw [look_step hw hb] at h
        split at h
        · next h3 =>
          injection h with h4 h5
          subst h4 h5
          have : fst l (k + 1) = 2 * upTo l k := rfl
          exact ⟨by omega, by omega, by omega, h3, e⟩
        · next h3 =>
          have := look_found f (k + 1) _ (by omega) e h
          exact ⟨by omega, this.2⟩
      · rw [look_fin hw (by omega)] at h; cases h
theorem lookup_found {l : List Int} {bits : List Bool} {n u : Nat} (h : lookup l bits = .found n u) : n ≤ bits.length ∧ fst l n ≤ u ∧ u < upTo l n ∧ hi n u = bits.take n :=
  (look_found 16 0 0 (by rw [upTo_zero]; exact Nat.le_refl _) (by rw [hi_zero]; rfl) h).2
end Go.Proofs.YtkjhefjjacokjaaGreat
