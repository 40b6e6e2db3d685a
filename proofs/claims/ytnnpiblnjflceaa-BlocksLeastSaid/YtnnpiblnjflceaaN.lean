/-
  Plain mathematics of bits: what is written is read. Conditions: none. Nothing of the program stands here.
-/
import Derived.Test.YtnnpiblnjflceaaM
namespace Go.Proofs.Ytnnpiblnjflceaa
theorem bitsOf_get (v n j : Nat) (h : j < n) : (bitsOf v n)[j]? = some (v / 2 ^ j % 2 == 1) := by
  obtain ⟨r, rfl⟩ : ∃ r, n = j + (1 + r) := ⟨n - j - 1, by omega⟩
  rw [bitsOf_add, List.getElem?_append_right (by simp)]
  simp [Nat.add_comm 1 r, bitsOf]

theorem num_bit (c : List Bool) (j : Nat) (h : j < c.length) : (num c / 2 ^ j % 2 == 1) = c[j] := by
  have h1 := bitsOf_get (num c) c.length j h
  rw [bitsOf_num, List.getElem?_eq_getElem h] at h1
  exact (Option.some.inj h1).symm

theorem unpack_get (bs : List Nat) (a : Nat) (h : a / 8 < bs.length) : (unpack bs)[a]? = some (bs[a / 8] / 2 ^ (a % 8) % 2 == 1) := by
  have h1 := unpack_part bs a 1 (by omega) h
  have h2 : ((unpack bs).drop a).take 1 = [bs[a / 8] / 2 ^ (a % 8) % 2 == 1] := by rw [h1]; rfl
  have h3 := congrArg (fun l => l[0]?) h2
  simpa using h3

theorem unpack_pack_take (l : List Bool) : (unpack (pack l)).take l.length = l := by
  apply List.ext_getElem?
  intro a
  by_cases h : a < l.length
  · rw [List.getElem?_take, if_pos h, unpack_get _ _ (by simp; omega), List.getElem?_eq_getElem h]
    have h1 := pack_get l (a / 8) (by omega)
    rw [List.getElem?_eq_getElem (by simp; omega)] at h1
    rw [Option.some.inj h1]
    have hl : a % 8 < ((l.drop (8 * (a / 8))).take 8).length := by simp; omega
    rw [num_bit _ _ hl]
    simp only [List.getElem_take, List.getElem_drop]
    congr 2
    omega
  · rw [List.getElem?_eq_none (by simp; omega), List.getElem?_eq_none (by omega)]

/-- What is written is read: the bits of the bytes of l are l, and what fills the last byte. -/
theorem unpack_pack (l : List Bool) : ∃ pad, unpack (pack l) = l ++ pad ∧ pad.length < 8 := by
  refine ⟨(unpack (pack l)).drop l.length, ?_, by simp; omega⟩
  have h := unpack_pack_take l
  calc unpack (pack l) = (unpack (pack l)).take l.length ++ (unpack (pack l)).drop l.length := (List.take_append_drop _ _).symm
    _ = _ := by rw [h]

theorem unpack_mid (l a b c : List Bool) (h : l = a ++ b ++ c) : ((unpack (pack l)).drop a.length).take b.length = b := by
  obtain ⟨pad, hp, _⟩ := unpack_pack l
  rw [hp, h, List.append_assoc, List.append_assoc, List.drop_append_of_le_length (by simp), List.drop_of_length_le (by simp), List.nil_append, List.take_append_of_le_length (by simp), List.take_of_length_le (by simp)]

/-- What the first k of some numbers, of so many bits each, write. -/
def wrote (V : Nat → Nat) (K : Nat → Int) : Nat → List Bool
  | 0 => []
  | k + 1 => wrote V K k ++ (if 0 ≤ K k ∧ K k ≤ 32 then bitsOf (V k) (K k).toNat else [])

theorem wrote_length (V : Nat → Nat) (K : Nat → Int) (k : Nat) : (wrote V K k).length ≤ 32 * k := by
  induction k with
  | zero => simp [wrote]
  | succ k ih =>
    simp only [wrote, List.length_append]
    split <;> simp <;> omega

theorem wrote_more (V : Nat → Nat) (K : Nat → Int) (k n : Nat) (h : k ≤ n) : ∃ c, wrote V K n = wrote V K k ++ c := by
  induction n with
  | zero => exact ⟨[], by simp [show k = 0 by omega]⟩
  | succ n ih =>
    by_cases hk : k = n + 1
    · exact ⟨[], by simp [hk]⟩
    · obtain ⟨c, hc⟩ := ih (by omega)
      refine ⟨c ++ (if 0 ≤ K n ∧ K n ≤ 32 then bitsOf (V n) (K n).toNat else []), ?_⟩
      simp only [wrote, hc, List.append_assoc]

end Go.Proofs.Ytnnpiblnjflceaa
