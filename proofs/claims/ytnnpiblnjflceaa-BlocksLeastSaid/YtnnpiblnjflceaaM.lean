/-
  Plain mathematics of bits: numbers, their bits (the lowest first), bytes of bits. Conditions: none. Nothing of the program stands here.
-/
import Derived.Laws.BitsAllLaws
namespace Go.Proofs.Ytnnpiblnjflceaa

/-- The n lowest bits of v, the lowest first. -/
def bitsOf (v : Nat) : Nat → List Bool
  | 0 => []
  | n + 1 => (v % 2 == 1) :: bitsOf (v / 2) n

/-- What bits tell, the lowest first. -/
def num : List Bool → Nat
  | [] => 0
  | b :: l => (if b then 1 else 0) + 2 * num l

@[simp] theorem bitsOf_length (v n : Nat) : (bitsOf v n).length = n := by
  induction n generalizing v with
  | zero => rfl
  | succ n ih => simp [bitsOf, ih]

theorem num_lt (l : List Bool) : num l < 2 ^ l.length := by
  induction l with
  | nil => simp [num]
  | cons b l ih =>
    simp only [num, List.length_cons, Nat.pow_succ]
    split <;> omega

theorem num_append (a b : List Bool) : num (a ++ b) = num a + 2 ^ a.length * num b := by
  induction a with
  | nil => simp [num]
  | cons x a ih =>
    simp only [num, List.cons_append, List.length_cons, Nat.pow_succ, ih]
    rw [Nat.mul_add, ← Nat.mul_assoc, Nat.mul_comm (2 ^ a.length) 2]
    omega

theorem num_bitsOf (v n : Nat) : num (bitsOf v n) = v % 2 ^ n := by
  induction n generalizing v with
  | zero => simp [bitsOf, num, Nat.mod_one]
  | succ n ih =>
    simp only [bitsOf, num, ih]
    have h : v % 2 ^ (n + 1) = v % 2 + 2 * (v / 2 % 2 ^ n) := by
      rw [Nat.pow_succ, Nat.mul_comm (2 ^ n) 2, Nat.mod_mul]
    rw [h]
    have : v % 2 = 0 ∨ v % 2 = 1 := by omega
    rcases this with h | h <;> simp [h]

theorem bitsOf_add (v a b : Nat) : bitsOf v (a + b) = bitsOf v a ++ bitsOf (v / 2 ^ a) b := by
  induction a generalizing v with
  | zero => simp [bitsOf]
  | succ a ih =>
    rw [show a + 1 + b = (a + b) + 1 by omega]
    simp only [bitsOf, List.cons_append, ih]
    rw [Nat.div_div_eq_div_mul, Nat.pow_succ, Nat.mul_comm 2]

theorem bitsOf_succ (v a : Nat) : bitsOf v (a + 1) = bitsOf v a ++ [v / 2 ^ a % 2 == 1] := by
  rw [bitsOf_add]; rfl

theorem bitsOf_mod (v n : Nat) : bitsOf (v % 2 ^ n) n = bitsOf v n := by
  induction n generalizing v with
  | zero => rfl
  | succ n ih =>
    simp only [bitsOf]
    have h1 : v % 2 ^ (n + 1) % 2 = v % 2 := by
      rw [Nat.pow_succ, Nat.mul_comm]; exact Nat.mod_mul_right_mod v 2 (2 ^ n)
    have h2 : v % 2 ^ (n + 1) / 2 = v / 2 % 2 ^ n := by
      rw [Nat.pow_succ, Nat.mul_comm]; exact Nat.mod_mul_right_div_self v 2 (2 ^ n)
    rw [h1, h2, ih]

theorem bitsOf_num (l : List Bool) : bitsOf (num l) l.length = l := by
  induction l with
  | nil => rfl
  | cons b l ih =>
    simp only [num, List.length_cons, bitsOf]
    have h1 : ((if b = true then 1 else 0) + 2 * num l) / 2 = num l := by split <;> omega
    rw [h1, ih]
    cases b <;> simp <;> omega

/-- Of bits the other way round. -/
def rev (v n : Nat) : Nat := num (bitsOf v n).reverse

theorem rev_lt (v n : Nat) : rev v n < 2 ^ n := by
  have := num_lt (bitsOf v n).reverse
  simpa [rev] using this

theorem rev_succ (v n : Nat) : rev v (n + 1) = v / 2 ^ n % 2 + 2 * rev v n := by
  unfold rev
  rw [bitsOf_succ, List.reverse_append]
  simp only [List.reverse_cons, List.reverse_nil, List.nil_append, List.cons_append, num]
  have : v / 2 ^ n % 2 = 0 ∨ v / 2 ^ n % 2 = 1 := by omega
  rcases this with h | h <;> simp [h]

theorem rev_rev (v n : Nat) : rev (rev v n) n = v % 2 ^ n := by
  have h := bitsOf_num (bitsOf v n).reverse
  simp at h
  unfold rev
  rw [h, List.reverse_reverse, num_bitsOf]

theorem pow_le_32 {n : Nat} (h : n ≤ 32) : 2 ^ n ≤ 4294967296 := by
  have := Nat.pow_le_pow_right (n := 2) (by omega) h
  simpa using this

/-- The bytes of bits, the last one filled up. -/
def pack (l : List Bool) : List Nat := (List.range ((l.length + 7) / 8)).map fun i => num ((l.drop (8 * i)).take 8)

@[simp] theorem pack_length (l : List Bool) : (pack l).length = (l.length + 7) / 8 := by simp [pack]

theorem pack_get (l : List Bool) (i : Nat) (h : i < (l.length + 7) / 8) : (pack l)[i]? = some (num ((l.drop (8 * i)).take 8)) := by
  simp [pack, h]

theorem pack_lt (l : List Bool) : ∀ x ∈ pack l, x < 256 := by
  intro x hx
  simp only [pack, List.mem_map, List.mem_range] at hx
  obtain ⟨i, _, rfl⟩ := hx
  have h := num_lt ((l.drop (8 * i)).take 8)
  have h2 : ((l.drop (8 * i)).take 8).length ≤ 8 := List.length_take_le _ _
  have := Nat.pow_le_pow_right (n := 2) (by omega) h2
  omega

theorem pack_full (l : List Bool) : (pack l).take (l.length / 8) ++ (if l.length % 8 = 0 then [] else [num (l.drop (8 * (l.length / 8)))]) = pack l := by
  have hl := pack_length l
  split
  · rw [List.append_nil]; exact List.take_of_length_le (by omega)
  · have h : l.length / 8 < (pack l).length := by omega
    have h2 := pack_get l (l.length / 8) (by omega)
    rw [List.getElem?_eq_getElem h] at h2
    have h3 : ((l.drop (8 * (l.length / 8))).take 8) = l.drop (8 * (l.length / 8)) := List.take_of_length_le (by simp; omega)
    rw [h3] at h2
    have h4 := List.take_succ_eq_append_getElem h
    rw [List.take_of_length_le (by omega)] at h4
    rw [h4, Option.some.inj h2]
    congr 1
    rw [List.take_append_of_le_length (by simp; omega), List.take_take, Nat.min_self]

theorem pack_more (l m : List Bool) (hm : 0 < m.length) (h8 : l.length % 8 + m.length ≤ 8) :
    pack (l ++ m) = (pack l).take (l.length / 8) ++ [num (l.drop (8 * (l.length / 8))) + 2 ^ (l.length % 8) * num m] := by
  have hl := pack_length l
  apply List.ext_getElem?
  intro i
  by_cases hi : i < l.length / 8
  · rw [pack_get _ _ (by simp; omega), List.getElem?_append_left (by simp; omega), List.getElem?_take, if_pos hi, pack_get _ _ (by omega)]
    rw [List.drop_append_of_le_length (by omega), List.take_append_of_le_length (by simp; omega)]
  · by_cases hi2 : i = l.length / 8
    · subst hi2
      rw [pack_get _ _ (by simp; omega), List.getElem?_append_right (by simp; omega)]
      have : (List.take (l.length / 8) (pack l)).length = l.length / 8 := by simp; omega
      rw [this, Nat.sub_self]
      simp only [List.getElem?_cons_zero, Option.some.injEq]
      rw [List.drop_append_of_le_length (by omega), List.take_of_length_le (by simp; omega), num_append]
      rw [show (l.drop (8 * (l.length / 8))).length = l.length % 8 by simp; omega]
    · rw [List.getElem?_eq_none (by simp; omega), List.getElem?_eq_none (by simp; omega)]

/-- The bits of bytes. -/
def unpack (bs : List Nat) : List Bool := bs.flatMap fun b => bitsOf b 8

@[simp] theorem unpack_length (bs : List Nat) : (unpack bs).length = 8 * bs.length := by
  induction bs with
  | nil => rfl
  | cons b bs ih =>
    have : unpack (b :: bs) = bitsOf b 8 ++ unpack bs := rfl
    rw [this]; simp [ih]; omega

theorem bitsOf_take (v a b : Nat) : (bitsOf v (a + b)).take a = bitsOf v a := by
  rw [bitsOf_add, List.take_append_of_le_length (by simp), List.take_of_length_le (by simp)]
theorem bitsOf_drop (v a b : Nat) : (bitsOf v (a + b)).drop a = bitsOf (v / 2 ^ a) b := by
  rw [bitsOf_add, List.drop_append_of_le_length (by simp), List.drop_of_length_le (by simp)]; rfl

theorem unpack_part (bs : List Nat) (a p : Nat) (h8 : a % 8 + p ≤ 8) (h : a / 8 < bs.length) :
    ((unpack bs).drop a).take p = bitsOf (bs[a / 8] / 2 ^ (a % 8)) p := by
  induction bs generalizing a with
  | nil => simp at h
  | cons b bs ih =>
    have e : unpack (b :: bs) = bitsOf b 8 ++ unpack bs := rfl
    rw [e]
    by_cases ha : a < 8
    · have h1 : a / 8 = 0 := by omega
      have h2 : a % 8 = a := by omega
      rw [List.drop_append_of_le_length (by simp; omega)]
      have h3 : (bitsOf b 8).drop a = bitsOf (b / 2 ^ a) (p + (8 - a - p)) := by
        have := bitsOf_drop b a (p + (8 - a - p))
        rwa [show a + (p + (8 - a - p)) = 8 by omega] at this
      rw [h3, List.take_append_of_le_length (by simp), bitsOf_take]
      simp [h1, h2]
    · have h1 : a / 8 = (a - 8) / 8 + 1 := by omega
      have h2 : (a - 8) % 8 = a % 8 := by omega
      have h3 : List.drop a (bitsOf b 8 ++ unpack bs) = List.drop (a - 8) (unpack bs) := by
        rw [List.drop_append, List.drop_of_length_le (by simp; omega)]
        simp
      rw [h3, ih (a - 8) (by omega) (by simp at h; omega)]
      simp only [h1, h2, List.getElem_cons_succ]

theorem num_part (X : List Bool) (i p : Nat) (h : i ≤ X.length) : num (X.take (i + p)) = num (X.take i) + 2 ^ i * num ((X.drop i).take p) := by
  rw [List.take_add, num_append]
  simp [Nat.min_eq_left h]

end Go.Proofs.Ytnnpiblnjflceaa
