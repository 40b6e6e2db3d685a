/-
  Plain mathematics of sums: the register, step by step, bit by bit, byte by byte. Conditions: none. Nothing of the program stands here.
-/
import Derived.Test.YtdpdfnekokmgoaaM
namespace Go.Proofs.Ytdpdfnekokmgoaa

/-- The polynomial's bits below the highest one, the highest power in the lowest bit. -/
def poly : Nat := 3988292384

/-- One step of the register. -/
def st (r : Nat) : Nat := (r / 2) ^^^ (poly * (r % 2))

theorem xor_div2 (a b : Nat) : (a ^^^ b) / 2 = (a / 2) ^^^ (b / 2) := by
  have := Nat.xor_div_two (a := a) (b := b)
  simpa using this
theorem xor_mod2 (a b : Nat) : (a ^^^ b) % 2 = (a % 2 + b % 2) % 2 := by
  have h := Nat.testBit_xor a b 0
  simp only [Nat.testBit_zero] at h
  have ha : a % 2 = 0 ∨ a % 2 = 1 := by omega
  have hb : b % 2 = 0 ∨ b % 2 = 1 := by omega
  have hc : (a ^^^ b) % 2 = 0 ∨ (a ^^^ b) % 2 = 1 := by omega
  rcases ha with ha | ha <;> rcases hb with hb | hb <;> rcases hc with hc | hc <;> rw [ha, hb, hc] at h <;> first | (exact absurd h (by decide)) | (rw [ha, hb, hc])

theorem st_xor (a b : Nat) : st (a ^^^ b) = st a ^^^ st b := by
  unfold st
  rw [xor_div2, xor_mod2]
  have ha : a % 2 = 0 ∨ a % 2 = 1 := by omega
  have hb : b % 2 = 0 ∨ b % 2 = 1 := by omega
  have h4 : ∀ x y z : Nat, x ^^^ y ^^^ z = x ^^^ z ^^^ y := fun x y z => by rw [Nat.xor_assoc, Nat.xor_comm y z, ← Nat.xor_assoc]
  rcases ha with ha | ha <;> rcases hb with hb | hb <;> simp only [ha, hb]
  · simp
  · simp [Nat.xor_assoc]
  · simp [h4]
  · rw [Nat.mul_one, show (1 + 1) % 2 = 0 from rfl, Nat.mul_zero, Nat.xor_zero, ← Nat.xor_assoc, h4 (a / 2) poly (b / 2), Nat.xor_assoc (a / 2 ^^^ b / 2), Nat.xor_self, Nat.xor_zero]

theorem st_zero : st 0 = 0 := rfl

theorem st_lt (r : Nat) (h : r < 4294967296) : st r < 4294967296 := by
  unfold st
  have hp : poly * (r % 2) < 2 ^ 32 := by
    have : r % 2 = 0 ∨ r % 2 = 1 := by omega
    rcases this with h | h <;> simp [h, poly]
  exact Nat.xor_lt_two_pow (n := 32) (by omega) hp

theorem poly_top (x : Nat) (h : x < 2147483648) : 2147483648 ≤ x ^^^ poly := by
  apply Nat.le_of_not_lt
  intro hlt
  have h1 : (x ^^^ poly) ^^^ x < 2 ^ 31 := Nat.xor_lt_two_pow (n := 31) (by omega) (by omega)
  rw [Nat.xor_comm x poly, Nat.xor_assoc, Nat.xor_self, Nat.xor_zero] at h1
  simp [poly] at h1

theorem st_ne (r : Nat) (h : r < 4294967296) (h0 : r ≠ 0) : st r ≠ 0 := by
  unfold st
  have : r % 2 = 0 ∨ r % 2 = 1 := by omega
  rcases this with h1 | h1
  · simp [h1]; omega
  · rw [h1, Nat.mul_one]
    have := poly_top (r / 2) (by omega)
    omega

/-- So many steps. -/
def sts : Nat → Nat → Nat
  | 0, r => r
  | n + 1, r => sts n (st r)

theorem sts_xor (n a b : Nat) : sts n (a ^^^ b) = sts n a ^^^ sts n b := by
  induction n generalizing a b with
  | zero => rfl
  | succ n ih => simp only [sts, st_xor, ih]
theorem sts_zero (n : Nat) : sts n 0 = 0 := by
  induction n with
  | zero => rfl
  | succ n ih => simp only [sts, st_zero, ih]
theorem sts_lt (n r : Nat) (h : r < 4294967296) : sts n r < 4294967296 := by
  induction n generalizing r with
  | zero => exact h
  | succ n ih => exact ih _ (st_lt r h)
theorem sts_ne (n r : Nat) (h : r < 4294967296) (h0 : r ≠ 0) : sts n r ≠ 0 := by
  induction n generalizing r with
  | zero => exact h0
  | succ n ih => exact ih _ (st_lt r h) (st_ne r h h0)
theorem sts_succ (n r : Nat) : sts (n + 1) r = st (sts n r) := by
  induction n generalizing r with
  | zero => rfl
  | succ n ih => rw [sts, ih, sts]
theorem sts_add (a b r : Nat) : sts (a + b) r = sts b (sts a r) := by
  induction a generalizing r with
  | zero => simp [sts]
  | succ a ih => rw [show a + 1 + b = (a + b) + 1 by omega, sts, ih, sts]
theorem sts_low (n r : Nat) (h : r % 2 ^ n = 0) : sts n r = r / 2 ^ n := by
  induction n generalizing r with
  | zero => simp [sts]
  | succ n ih =>
    have h2 : r % 2 = 0 := by
      rw [Nat.pow_succ] at h
      have := Nat.mod_mod_of_dvd r (show 2 ∣ 2 ^ n * 2 from ⟨2 ^ n, by omega⟩)
      rw [h] at this
      omega
    have h3 : st r = r / 2 := by simp [st, h2]
    have h4 : r / 2 % 2 ^ n = 0 := by
      rw [Nat.pow_succ, Nat.mul_comm] at h
      have := Nat.mod_mul_right_div_self r 2 (2 ^ n)
      rw [h] at this
      omega
    rw [sts, h3, ih _ h4, Nat.div_div_eq_div_mul, Nat.pow_succ, Nat.mul_comm 2]

/-- Bits go into the register. -/
def feed (r : Nat) (l : List Bool) : Nat := l.foldl (fun r b => st (r ^^^ b.toNat)) r

theorem feed_append (r : Nat) (a b : List Bool) : feed r (a ++ b) = feed (feed r a) b := by simp [feed]
theorem feed_cons (r : Nat) (b : Bool) (l : List Bool) : feed r (b :: l) = feed (st (r ^^^ b.toNat)) l := rfl

theorem xor_parts (r x : Nat) : r ^^^ x = (r ^^^ (x % 2)) ^^^ (2 * (x / 2)) := by
  rw [Nat.xor_assoc]
  congr 1
  apply Nat.eq_of_testBit_eq
  intro i
  rw [Nat.testBit_xor]
  cases i with
  | zero => simp [Nat.testBit_zero]
  | succ i =>
    rw [Nat.testBit_succ, Nat.testBit_succ, Nat.testBit_succ]
    rw [show x % 2 / 2 = 0 by omega, show 2 * (x / 2) / 2 = x / 2 by omega]
    simp

theorem st_double (x : Nat) : st (2 * x) = x := by
  unfold st
  rw [show 2 * x / 2 = x by omega, show 2 * x % 2 = 0 by omega]
  simp

theorem num_mod2 (b : Bool) (l : List Bool) : num (b :: l) % 2 = b.toNat := by
  cases b <;> simp [num] <;> omega
theorem num_div2 (b : Bool) (l : List Bool) : num (b :: l) / 2 = num l := by
  cases b <;> simp [num] <;> omega

theorem feed_num (r : Nat) (l : List Bool) : feed r l = sts l.length (r ^^^ num l) := by
  induction l generalizing r with
  | nil => simp [feed, num, sts]
  | cons b l ih =>
    rw [feed_cons, ih, List.length_cons, sts, xor_parts r (num (b :: l)), num_mod2, num_div2, st_xor (r ^^^ b.toNat) (2 * num l), st_double]

/-- A byte goes into the register. -/
def upd (r x : Nat) : Nat := sts 8 ((r % 256) ^^^ x) ^^^ (r / 256)

theorem low_high (r : Nat) : (r % 256) ^^^ (256 * (r / 256)) = r := by
  apply Nat.eq_of_testBit_eq
  intro i
  rw [Nat.testBit_xor, show (256 : Nat) = 2 ^ 8 from rfl, Nat.testBit_mod_two_pow, Nat.testBit_two_pow_mul, Nat.testBit_div_two_pow]
  by_cases h : i < 8
  · simp [h, show ¬ 8 ≤ i by omega]
  · simp [h, show 8 ≤ i by omega]

theorem upd_feed (r x : Nat) (hx : x < 256) : upd r x = feed r (bitsOf x 8) := by
  rw [feed_num, num_bitsOf, bitsOf_length, Nat.mod_eq_of_lt (by omega)]
  unfold upd
  conv => rhs; rw [← low_high r]
  rw [Nat.xor_assoc, Nat.xor_comm (256 * (r / 256)) x, ← Nat.xor_assoc, sts_xor 8 (r % 256 ^^^ x), sts_low 8 (256 * (r / 256)) (by omega), show (2 : Nat) ^ 8 = 256 from rfl, Nat.mul_div_cancel_left _ (by omega)]

/-- Bytes go into the register. -/
def reg (r : Nat) (bs : List Nat) : Nat := bs.foldl upd r

theorem reg_feed (r : Nat) (bs : List Nat) (h : ∀ x ∈ bs, x < 256) : reg r bs = feed r (unpack bs) := by
  induction bs generalizing r with
  | nil => rfl
  | cons x bs ih =>
    have e : unpack (x :: bs) = bitsOf x 8 ++ unpack bs := rfl
    rw [e, feed_append, ← upd_feed r x (h x (by simp))]
    exact ih _ (fun y hy => h y (by simp [hy]))

theorem upd_lt (r x : Nat) (hr : r < 4294967296) (hx : x < 256) : upd r x < 4294967296 := by
  unfold upd
  have h1 : (r % 256) ^^^ x < 2 ^ 8 := Nat.xor_lt_two_pow (n := 8) (by omega) (by omega)
  exact Nat.xor_lt_two_pow (n := 32) (sts_lt 8 _ (by omega)) (by omega)
theorem reg_lt (r : Nat) (bs : List Nat) (hr : r < 4294967296) (h : ∀ x ∈ bs, x < 256) : reg r bs < 4294967296 := by
  induction bs generalizing r with
  | nil => exact hr
  | cons x bs ih => exact ih _ (upd_lt r x hr (h x (by simp))) (fun y hy => h y (by simp [hy]))
theorem reg_append (r : Nat) (a b : List Nat) : reg r (a ++ b) = reg (reg r a) b := by simp [reg]

/-- All bits turned over. -/
def flip32 (r : Nat) : Nat := 4294967295 - r

theorem flip32_xor (r : Nat) (h : r < 4294967296) : flip32 r = r ^^^ 4294967295 := by
  unfold flip32
  apply Nat.eq_of_testBit_eq
  intro i
  rw [show 4294967295 - r = 2 ^ 32 - (r + 1) by omega, Nat.testBit_two_pow_sub_succ (by omega), Nat.testBit_xor, show (4294967295 : Nat) = 2 ^ 32 - 1 from rfl, Nat.testBit_two_pow_sub_one]
  by_cases hi : i < 32
  · simp [hi]
  · have : r.testBit i = false := Nat.testBit_lt_two_pow (Nat.lt_of_lt_of_le (show r < 2 ^ 32 by omega) (Nat.pow_le_pow_right (by omega) (by omega)))
    simp [hi, this]

/-- The sum of bytes. -/
def crc (bs : List Nat) : Nat := flip32 (reg 4294967295 bs)

theorem crc_lt (bs : List Nat) : crc bs < 4294967296 := by unfold crc flip32; omega
theorem flip_flip (r : Nat) (h : r < 4294967296) : flip32 (flip32 r) = r := by unfold flip32; omega

example : crc [49, 50, 51, 52, 53, 54, 55, 56, 57] = 3421780262 := by decide +kernel
end Go.Proofs.Ytdpdfnekokmgoaa
