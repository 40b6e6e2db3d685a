/-
  Plain mathematics of the long division: how it stands at each place, and that its end is the sum. Conditions: none. Nothing of the program stands here.
-/
import Derived.Test.YtdpdfnekokmgoaaY1
namespace Go.Proofs.Ytdpdfnekokmgoaa

theorem num_xorl (a b : List Bool) (h : a.length = b.length) : num (xorl a b) = num a ^^^ num b := by
  induction a generalizing b with
  | nil =>
    cases b with
    | nil => rfl
    | cons y b => simp at h
  | cons x a ih =>
    cases b with
    | nil => simp at h
    | cons y b =>
      have e : xorl (x :: a) (y :: b) = (x != y) :: xorl a b := rfl
      have hih := ih b (by simpa using h)
      apply Nat.eq_of_testBit_eq
      intro i
      cases i with
      | zero =>
        rw [Nat.testBit_xor, Nat.testBit_zero, Nat.testBit_zero, Nat.testBit_zero, e, num_mod2, num_mod2, num_mod2]
        cases x <;> cases y <;> rfl
      | succ i =>
        rw [Nat.testBit_xor, Nat.testBit_succ, Nat.testBit_succ, Nat.testBit_succ, e, num_div2, num_div2, num_div2, hih, Nat.testBit_xor]

theorem num_not (l : List Bool) : num (l.map (fun x => !x)) + num l + 1 = 2 ^ l.length := by
  induction l with
  | nil => rfl
  | cons x l ih =>
    rw [List.map_cons, num, num, List.length_cons, Nat.pow_succ]
    cases x <;> simp <;> omega

theorem num_snoc (l : List Bool) (b : Bool) : num (l ++ [b]) = num l ^^^ (2 ^ l.length * b.toNat) := by
  rw [num_append]
  have h := num_lt l
  have e : num [b] = b.toNat := by cases b <;> rfl
  rw [e]
  apply Nat.eq_of_testBit_eq
  intro i
  rw [Nat.add_comm, Nat.testBit_xor]
  by_cases hi : i < l.length
  · rw [Nat.testBit_two_pow_mul_add _ h, if_pos hi, Nat.testBit_two_pow_mul]
    simp [show ¬ l.length ≤ i by omega]
  · rw [Nat.testBit_two_pow_mul_add _ h, if_neg hi, Nat.testBit_two_pow_mul]
    have : (num l).testBit i = false := Nat.testBit_lt_two_pow (Nat.lt_of_lt_of_le h (Nat.pow_le_pow_right (by omega) (by omega)))
    simp [this, show l.length ≤ i by omega]

/-- The first k bits turned over. -/
def flipTo (m : List Bool) (k : Nat) : List Bool := (m.take k).map (fun x => !x) ++ m.drop k
@[simp] theorem flipTo_length (m : List Bool) (k : Nat) : (flipTo m k).length = m.length := by simp [flipTo]; omega
theorem flipTo_step (m : List Bool) (k : Nat) (h : k < m.length) : (flipTo m k)[k]? = some m[k] ∧ (flipTo m k).set k (!m[k]) = flipTo m (k + 1) := by
  have hl : ((m.take k).map (fun x => !x)).length = k := by simp; omega
  have hd : m.drop k = m[k] :: m.drop (k + 1) := List.drop_eq_getElem_cons h
  unfold flipTo
  constructor
  · rw [List.getElem?_append_right (by omega), hl, Nat.sub_self, hd]; rfl
  · rw [List.set_append_right _ _ (by omega), hl, Nat.sub_self, hd, List.set_cons_zero, List.take_succ_eq_append_getElem h, List.map_append, List.append_assoc]
    rfl

/-- A row with another one put onto it from place i on, its first k bits. -/
def xorTo (l : List Bool) (i : Nat) (d : List Bool) (k : Nat) : List Bool := (List.range l.length).map fun j => l.getD j false != (decide (i ≤ j ∧ j < i + k) && d.getD (j - i) false)
@[simp] theorem xorTo_length (l : List Bool) (i : Nat) (d : List Bool) (k : Nat) : (xorTo l i d k).length = l.length := by simp [xorTo]
theorem xorTo_get (l : List Bool) (i : Nat) (d : List Bool) (k j : Nat) (h : j < l.length) : (xorTo l i d k)[j]? = some (l[j] != (decide (i ≤ j ∧ j < i + k) && d.getD (j - i) false)) := by
  simp [xorTo, h]
theorem xorTo_zero (l : List Bool) (i : Nat) (d : List Bool) : xorTo l i d 0 = l := by
  apply List.ext_getElem?
  intro j
  by_cases h : j < l.length
  · rw [xorTo_get _ _ _ _ _ h, List.getElem?_eq_getElem h]
    have : decide (i ≤ j ∧ j < i + 0) = false := by simp
    rw [this]; simp
  · rw [List.getElem?_eq_none (by simp; omega), List.getElem?_eq_none (by omega)]
theorem xorTo_step (l : List Bool) (i : Nat) (d : List Bool) (k : Nat) (h : i + k < l.length) (hd : k < d.length) : (xorTo l i d k)[i + k]? = some l[i + k] ∧ (xorTo l i d k).set (i + k) (l[i + k] != d[k]) = xorTo l i d (k + 1) := by
  constructor
  · rw [xorTo_get _ _ _ _ _ h]
    have : decide (i ≤ i + k ∧ i + k < i + k) = false := by simp
    rw [this]; simp
  · apply List.ext_getElem?
    intro j
    by_cases hj : j < l.length
    · rw [xorTo_get _ _ _ _ _ hj, List.getElem?_set]
      by_cases hp : i + k = j
      · subst hp
        have h1 : decide (i ≤ i + k ∧ i + k < i + (k + 1)) = true := by simp
        have h2 : i + k - i = k := by omega
        rw [h1, h2]
        simp [h, List.getD, hd]
      · rw [if_neg hp, xorTo_get _ _ _ _ _ hj]
        have : decide (i ≤ j ∧ j < i + (k + 1)) = decide (i ≤ j ∧ j < i + k) := by rw [decide_eq_decide]; omega
        rw [this]
    · rw [List.getElem?_eq_none (by simp; omega), List.getElem?_eq_none (by simp; omega)]

/-- How the division stands at place i. -/
def DivAt (m l : List Bool) (i : Nat) : Prop :=
  l.length = m.length ∧ (∀ j, i + 32 ≤ j → l[j]? = m[j]?) ∧ num ((l.drop i).take 32) = feed 4294967295 (m.take i) ^^^ num ((m.drop i).take 32)

theorem div_start (m : List Bool) (h : 32 ≤ m.length) : DivAt m (flipTo m 32) 0 := by
  refine ⟨by simp, ?_, ?_⟩
  · intro j hj
    have hl : ((m.take 32).map (fun x => !x)).length = 32 := by simp; omega
    unfold flipTo
    rw [List.getElem?_append_right (by omega), hl, List.getElem?_drop]
    congr 1; omega
  · have hl : ((m.take 32).map (fun x => !x)).length = 32 := by simp; omega
    rw [List.drop_zero, List.drop_zero, List.take_zero]
    have e : (flipTo m 32).take 32 = (m.take 32).map (fun x => !x) := by
      unfold flipTo
      rw [List.take_append_of_le_length (by omega), List.take_of_length_le (by omega)]
    rw [e]
    have h1 := num_not (m.take 32)
    have h2 : (m.take 32).length = 32 := by simp; omega
    rw [h2] at h1
    have h3 := num_lt (m.take 32)
    rw [h2] at h3
    have h4 := flip32_xor (num (m.take 32)) (by omega)
    rw [Nat.xor_comm] at h4
    show _ = 4294967295 ^^^ _
    rw [← h4]
    unfold flip32
    omega

theorem window_cons (l : List Bool) (i : Nat) (h : i + 32 < l.length) : (l.drop i).take 32 = l[i] :: (l.drop (i + 1)).take 31 := by
  rw [List.drop_eq_getElem_cons (show i < l.length by omega), List.take_succ_cons]
theorem window_next (l : List Bool) (i : Nat) (h : i + 32 < l.length) : (l.drop (i + 1)).take 32 = (l.drop (i + 1)).take 31 ++ [l[i + 32]] := by
  rw [List.take_succ_eq_append_getElem (i := 31) (by simp; omega)]
  congr 2
  rw [List.getElem_drop]

theorem window_num (l : List Bool) (i : Nat) (h : i + 32 < l.length) : num ((l.drop (i + 1)).take 32) = num ((l.drop i).take 32) / 2 ^^^ (2147483648 * l[i + 32].toNat) ∧ num ((l.drop i).take 32) % 2 = l[i].toNat := by
  rw [window_next l i h, num_snoc, window_cons l i h, num_div2, num_mod2]
  have : ((l.drop (i + 1)).take 31).length = 31 := by simp; omega
  rw [this]
  exact ⟨rfl, rfl⟩

/-- A step of the division, whatever is put on: e stands behind its highest bit. -/
theorem div_next (m l l' e : List Bool) (i : Nat) (hD : DivAt m l i) (h : i + 32 < m.length) (hl : l'.length = l.length) (hfar : ∀ j, i + 33 ≤ j → l'[j]? = l[j]?)
    (hwin : (l'.drop (i + 1)).take 32 = xorl ((l.drop (i + 1)).take 32) e) (he : e.length = 32) (hnum : ∀ h', num e = poly * (l[i]'h').toNat) : DivAt m l' (i + 1) := by
  obtain ⟨h1, h2, h3⟩ := hD
  have hil : i + 32 < l.length := by omega
  refine ⟨by omega, ?_, ?_⟩
  · intro j hj
    rw [hfar j (by omega), h2 j (by omega)]
  · have hw : ((l.drop (i + 1)).take 32).length = 32 := by simp; omega
    obtain ⟨a1, a2⟩ := window_num l i hil
    obtain ⟨b1, b2⟩ := window_num m i h
    have hb : l[i + 32] = m[i + 32] := by
      have := h2 (i + 32) (by omega)
      rw [List.getElem?_eq_getElem hil, List.getElem?_eq_getElem h] at this
      exact Option.some.inj this
    have hmi : i < m.length := by omega
    have ht : m.take (i + 1) = m.take i ++ [m[i]] := List.take_succ_eq_append_getElem hmi
    rw [hwin, num_xorl _ _ (by omega), hnum (by omega), a1, b1, ht, feed_append, ← a2, h3, hb]
    generalize hr : feed 4294967295 (m.take i) = r
    have e1 : feed r [m[i]] = st (r ^^^ m[i].toNat) := rfl
    rw [e1, ← b2]
    generalize num ((m.drop i).take 32) = M
    generalize 2147483648 * m[i + 32].toNat = T
    unfold st
    rw [xor_div2, xor_div2, xor_mod2, xor_mod2, show M % 2 / 2 = 0 by omega, Nat.xor_zero, show M % 2 % 2 = M % 2 by omega]
    rw [Nat.xor_assoc, Nat.xor_assoc, Nat.xor_assoc]
    congr 1
    rw [← Nat.xor_assoc, Nat.xor_comm]

/-- The divisor's bits, the highest first. -/
def divs : List Bool := [true, false, false, false, false, false, true, false, false, true, true, false, false, false, false, false, true, false, false, false, true, true, true, false, true, true, false, true, true, false, true, true, true]
theorem divs_length : divs.length = 33 := rfl
theorem divs_poly : num (divs.drop 1) = poly := by decide

theorem div_no (m l : List Bool) (i : Nat) (hD : DivAt m l i) (h : i + 32 < m.length) (hb : l[i]? = some false) : DivAt m l (i + 1) := by
  refine div_next m l l (List.replicate 32 false) i hD h rfl (fun _ _ => rfl) ?_ (by simp) ?_
  · apply List.ext_getElem?
    intro j
    unfold xorl
    rw [List.getElem?_zipWith]
    have hw : ((l.drop (i + 1)).take 32).length = 32 := by have := hD.1; simp; omega
    by_cases hj : j < 32
    · rw [List.getElem?_eq_getElem (by omega), List.getElem?_replicate, if_pos hj]
      simp
    · rw [List.getElem?_eq_none (by omega)]
  · intro h'
    rw [List.getElem?_eq_getElem h'] at hb
    rw [Option.some.inj hb]
    decide
theorem div_yes (m l : List Bool) (i : Nat) (hD : DivAt m l i) (h : i + 32 < m.length) (hb : l[i]? = some true) : DivAt m (xorTo l i divs 33) (i + 1) := by
  have hlen := hD.1
  refine div_next m l (xorTo l i divs 33) (divs.drop 1) i hD h (by simp) ?_ ?_ rfl ?_
  · intro j hj
    by_cases hjl : j < l.length
    · rw [xorTo_get _ _ _ _ _ hjl, List.getElem?_eq_getElem hjl]
      have : decide (i ≤ j ∧ j < i + 33) = false := by simp; omega
      rw [this]; simp
    · rw [List.getElem?_eq_none (by simp; omega), List.getElem?_eq_none (by omega)]
  · apply List.ext_getElem?
    intro j
    unfold xorl
    rw [List.getElem?_zipWith]
    by_cases hj : j < 32
    · have hjl : i + 1 + j < l.length := by omega
      rw [List.getElem?_take, if_pos hj, List.getElem?_drop, xorTo_get _ _ _ _ _ hjl, List.getElem?_take, if_pos hj, List.getElem?_drop, List.getElem?_eq_getElem hjl, List.getElem?_drop]
      have h1 : decide (i ≤ i + 1 + j ∧ i + 1 + j < i + 33) = true := by simp; omega
      have h2 : i + 1 + j - i = 1 + j := by omega
      have h3 : 1 + j < divs.length := by rw [divs_length]; omega
      rw [h1, h2, List.getElem?_eq_getElem h3]
      simp [List.getD, h3]
    · rw [List.getElem?_eq_none (by simp; omega), List.getElem?_eq_none (by simp; omega)]
  · intro h'
    rw [List.getElem?_eq_getElem h'] at hb
    rw [Option.some.inj hb, divs_poly]
    rfl

theorem div_end (bs : List Nat) (h256 : ∀ x ∈ bs, x < 256) (l : List Bool) (hD : DivAt (unpack bs ++ List.replicate 32 false) l (8 * bs.length)) : num ((l.drop (8 * bs.length)).map (fun x => !x)) = crc bs := by
  obtain ⟨h1, _, h3⟩ := hD
  have hl : (l.drop (8 * bs.length)).length = 32 := by simp at h1 ⊢; omega
  have t1 : (l.drop (8 * bs.length)).take 32 = l.drop (8 * bs.length) := List.take_of_length_le (by omega)
  have t2 : (unpack bs ++ List.replicate 32 false).take (8 * bs.length) = unpack bs := by rw [← unpack_length, List.take_left]
  have t3 : ((unpack bs ++ List.replicate 32 false).drop (8 * bs.length)).take 32 = List.replicate 32 false := by
    rw [← unpack_length, List.drop_left]
    rfl
  rw [t1, t2, t3, ← reg_feed _ _ h256] at h3
  have hz : num (List.replicate 32 false) = 0 := by decide
  rw [hz, Nat.xor_zero] at h3
  have h4 := num_not (l.drop (8 * bs.length))
  rw [hl, h3] at h4
  unfold crc flip32
  omega
end Go.Proofs.Ytdpdfnekokmgoaa
