/-
  A word that stands next is found; signs that have words, one behind the other. Conditions: none. Nothing of the program stands here.
-/
import Derived.Test.YtijjcecboepiiaaZ4
namespace Go.Proofs.Ytijjcecboepiiaa

theorem hi_get (k d v : Nat) (h : k < (hi (k + 1 + d) v).length) : (hi (k + 1 + d) v)[k] = (v / 2 ^ d % 2 == 1) := by
  have e := hi_take (k + 1) d v
  rw [hi_snoc] at e
  have h1 : ((hi (k + 1 + d) v).take (k + 1))[k]? = some (v / 2 ^ d % 2 == 1) := by
    rw [e, List.getElem?_append_right (by simp)]
    simp
  rw [List.getElem?_take_of_lt (by omega), List.getElem?_eq_getElem h] at h1
  injection h1

theorem upTo_low {l : List Int} (n v : Nat) (h : fst l n ≤ v) : ∀ d, d + 1 ≤ n → upTo l (n - (d + 1)) ≤ v / 2 ^ (d + 1)
  | 0, hd => by
    obtain ⟨m, rfl⟩ : ∃ m, n = m + 1 := ⟨n - 1, by omega⟩
    have e : fst l (m + 1) = 2 * upTo l m := rfl
    simp only [Nat.zero_add, Nat.add_sub_cancel, Nat.pow_one]
    omega
  | d + 1, hd => by
    have ih := upTo_low n v h d (by omega)
    obtain ⟨m, hm⟩ : ∃ m, n - (d + 1) = m + 1 := ⟨n - (d + 1) - 1, by omega⟩
    rw [hm, upTo_succ] at ih
    rw [show n - (d + 1 + 1) = m by omega, Nat.pow_succ 2 (d + 1), ← Nat.div_div_eq_div_mul]
    omega

theorem look_word {l : List Int} (hr : kindOf l ≠ 0) (j : Nat) (hj : j < l.length) (bits : List Bool) (hb : bits.take (len l j) = wb l j) (hl : len l j ≤ bits.length) :
    ∀ d, d + 1 ≤ len l j → look l bits (16 - (len l j - (d + 1))) (len l j - (d + 1)) (wv l j / 2 ^ (d + 1)) = .found (len l j) (wv l j) := by
  intro d
  have hok := right_ok hr
  have h15 := len_le hok j
  have step : ∀ d, d + 1 ≤ len l j → look l bits (16 - (len l j - (d + 1))) (len l j - (d + 1)) (wv l j / 2 ^ (d + 1)) =
      if wv l j / 2 ^ d < upTo l (len l j - d) then .found (len l j - d) (wv l j / 2 ^ d) else look l bits (16 - (len l j - d)) (len l j - d) (wv l j / 2 ^ d) := by
    intro d hd
    obtain ⟨k, hk⟩ : ∃ k, len l j = k + 1 + d := ⟨len l j - 1 - d, by omega⟩
    have hlo := longer hok k j hj (by omega)
    have hkb : k < bits.length := by omega
    have hbit : bits[k] = (wv l j / 2 ^ d % 2 == 1) := by
      have h1 : (bits.take (len l j))[k]? = some bits[k] := by rw [List.getElem?_take_of_lt (by omega), List.getElem?_eq_getElem hkb]
      rw [hb] at h1
      unfold wb at h1
      rw [hk, List.getElem?_eq_getElem (by simp; omega), hi_get] at h1
      injection h1 with h1
      exact h1.symm
    have e := look_step (l := l) (bits := bits) (f := 16 - (k + 1)) (k := k) (v := wv l j / 2 ^ (d + 1)) (by omega) hkb
    have hv : 2 * (wv l j / 2 ^ (d + 1)) + bits[k].toNat = wv l j / 2 ^ d := by
      rw [hbit, Nat.pow_succ, ← Nat.div_div_eq_div_mul]
      generalize wv l j / 2 ^ d = x
      rcases Nat.mod_two_eq_zero_or_one x with h | h <;> rw [h] <;> simp <;> omega
    rw [hv] at e
    rw [show len l j - (d + 1) = k by omega, show len l j - d = k + 1 by omega]
    rw [show 16 - k = 16 - (k + 1) + 1 by omega]
    exact e
  have h0 : ∀ h : 1 ≤ len l j, wv l j < upTo l (len l j) := fun h => wv_lt hr j hj (by omega)
  induction d with
  | zero =>
    intro hd
    rw [step 0 hd]
    simp only [Nat.pow_zero, Nat.div_one, Nat.sub_zero]
    rw [if_pos (h0 hd)]
  | succ d ih =>
    intro hd
    rw [step (d + 1) hd, if_neg, ih (by omega)]
    have := upTo_low (l := l) (len l j) (wv l j) (by unfold wv; omega) d (by omega)
    omega

theorem lookup_word {l : List Int} (hr : kindOf l ≠ 0) (j : Nat) (hj : j < l.length) (h0 : len l j ≠ 0) (bits : List Bool) (hb : bits.take (len l j) = wb l j) : lookup l bits = .found (len l j) (wv l j) := by
  have hl : len l j ≤ bits.length := by
    have := congrArg List.length hb
    rw [List.length_take, wb_length] at this
    omega
  have h := look_word hr j hj bits hb hl (len l j - 1) (by omega)
  rw [show len l j - 1 + 1 = len l j by omega, Nat.sub_self] at h
  have hs := (wv_small hr j hj).resolve_right h0
  rw [Nat.div_eq_of_lt hs] at h
  exact h

/-- The signs that have words, of those that are asked for. -/
def pt (l : List Int) : List Int → List Nat
  | [] => []
  | s :: r => if s < 0 ∨ (l.length : Int) ≤ s ∨ len l s.toNat = 0 then pt l r else s.toNat :: pt l r
theorem pt_append (l a b : List Int) : pt l (a ++ b) = pt l a ++ pt l b := by
  induction a with
  | nil => rfl
  | cons s a ih => simp only [List.cons_append, pt, ih]; split <;> rfl
theorem pt_take_no (l a : List Int) (k : Nat) (h : k < a.length) (hs : a[k] < 0 ∨ (l.length : Int) ≤ a[k] ∨ len l (a[k]).toNat = 0) : pt l (a.take (k + 1)) = pt l (a.take k) := by
  rw [take_snoc a k h, pt_append]
  simp only [pt]
  rw [if_pos hs, List.append_nil]
theorem pt_take_yes (l a : List Int) (k : Nat) (h : k < a.length) (hs : ¬ (a[k] < 0 ∨ (l.length : Int) ≤ a[k] ∨ len l (a[k]).toNat = 0)) : pt l (a.take (k + 1)) = pt l (a.take k) ++ [(a[k]).toNat] := by
  rw [take_snoc a k h, pt_append]
  simp only [pt]
  rw [if_neg hs]
theorem pt_length (l a : List Int) : (pt l a).length ≤ a.length := by
  induction a with
  | nil => simp [pt]
  | cons s a ih => simp only [pt]; split <;> simp <;> omega
theorem pt_mem (l a : List Int) : ∀ s ∈ pt l a, s < l.length ∧ len l s ≠ 0 := by
  induction a with
  | nil => simp [pt]
  | cons s a ih =>
    simp only [pt]
    split
    · exact ih
    · intro x hx
      rcases List.mem_cons.1 hx with rfl | hx
      · omega
      · exact ih x hx
/-- Their words' bits. -/
def wbs (l : List Int) : List Nat → List Bool
  | [] => []
  | s :: r => wb l s ++ wbs l r
theorem wbs_append (l : List Int) (a b : List Nat) : wbs l (a ++ b) = wbs l a ++ wbs l b := by
  induction a with
  | nil => rfl
  | cons s a ih => simp [wbs, ih]
theorem wbs_length {l : List Int} (h : Ok l) (a : List Nat) : (wbs l a).length ≤ 15 * a.length := by
  induction a with
  | nil => simp [wbs]
  | cons s a ih => have := len_le h s; simp [wbs]; omega
end Go.Proofs.Ytijjcecboepiiaa
