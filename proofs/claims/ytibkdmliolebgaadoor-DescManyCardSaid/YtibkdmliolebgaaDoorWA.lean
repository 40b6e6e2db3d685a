/-
  The program's size of a unit and highest bits by a first byte; masks of units in numbers. Conditions: none.
-/
import Derived.Test.YtibkdmliolebgaaDoorUB
import Derived.Laws.BitsAllLaws
import Derived.Laws.BitsLemmas
namespace Go.Proofs.YtibkdmliolebgaaDoor
open Go Go.RowKit
set_option maxRecDepth 100000

theorem wraps_u16 (n : Int) (h₀ : 0 ≤ n) (h₁ : n < 2 ^ 16) : IntKind.u16.wrap n = n := by rw [IntKind.wrap_u16]; omega
theorem wraps_u32 (n : Int) (h₀ : 0 ≤ n) (h₁ : n < 2 ^ 32) : IntKind.u32.wrap n = n := by rw [IntKind.wrap_u32]; omega
theorem a16_63 (x a : Nat) (hx : x < 65536) (h : x % 64 = a) : bits .and .u16 (x : Int) 63 = (a : Int) := by
  rw [show (63 : Int) = 2 ^ 6 - 1 from rfl, bits_mask .u16 16 (by decide) wraps_u16 6 (by decide) x (by omega) (by omega)]; omega
theorem a8_63 (x a : Nat) (hx : x < 256) (h : x % 64 = a) : bits .and .u8 (x : Int) 63 = (a : Int) := by
  rw [show (63 : Int) = 2 ^ 6 - 1 from rfl, bits_mask .u8 8 (by decide) wraps_u8 6 (by decide) x (by omega) (by omega)]; omega
theorem a32_1023 (x a : Nat) (hx : x < 4294967296) (h : x % 1024 = a) : bits .and .u32 (x : Int) 1023 = (a : Int) := by
  rw [show (1023 : Int) = 2 ^ 10 - 1 from rfl, bits_mask .u32 32 (by decide) wraps_u32 10 (by decide) x (by omega) (by omega)]; omega
theorem o16_128 (y : Nat) (h : y < 64) : bits .or .u16 128 (y : Int) = 128 + (y : Int) := bits_join .u16 16 (by decide) wraps_u16 6 128 y (by decide) (by decide) (by decide) (by omega) (by omega) (by omega)
theorem o16_192 (y : Nat) (h : y < 32) : bits .or .u16 192 (y : Int) = 192 + (y : Int) := bits_join .u16 16 (by decide) wraps_u16 5 192 y (by decide) (by decide) (by decide) (by omega) (by omega) (by omega)
theorem o16_224 (y : Nat) (h : y < 16) : bits .or .u16 224 (y : Int) = 224 + (y : Int) := bits_join .u16 16 (by decide) wraps_u16 4 224 y (by decide) (by decide) (by decide) (by omega) (by omega) (by omega)
theorem o16_six (x y : Nat) (hx : x < 65536) (h6 : x % 64 = 0) (h : y < 64) : bits .or .u16 (x : Int) (y : Int) = (x : Int) + (y : Int) := bits_join .u16 16 (by decide) wraps_u16 6 x y (by omega) (by omega) (by omega) (by omega) (by omega) (by omega)
theorem and_top {x k j : Nat} (hx : x < 2 ^ j) (hk : k ≤ j) : x &&& (2 ^ j - 2 ^ k) = x / 2 ^ k * 2 ^ k := by
  apply Nat.eq_of_testBit_eq
  intro i
  have e : 2 ^ j - 2 ^ k = (2 ^ (j - k) - 1) * 2 ^ k := by
    rw [Nat.sub_mul, ← Nat.pow_add, Nat.sub_add_cancel hk, Nat.one_mul]
  rw [Nat.testBit_and, e, Nat.testBit_mul_two_pow, Nat.testBit_mul_two_pow, Nat.testBit_two_pow_sub_one, Nat.testBit_div_two_pow]
  by_cases h1 : k ≤ i
  · rw [show i - k + k = i by omega]
    by_cases h2 : i - k < j - k
    · simp [h1, h2]
    · have : x.testBit i = false := Nat.testBit_lt_two_pow (Nat.lt_of_lt_of_le hx (Nat.pow_le_pow_right (by decide) (by omega)))
      simp [h1, this]
  · simp [h1]
theorem n8_63 (x a : Nat) (hx : x < 256) (h : x / 64 = a) : bits .andNot .u8 (x : Int) 63 = ((a * 64 : Nat) : Int) := by
  have e := u8_andNot_nat x 63 hx (by decide)
  have t := and_top (x := x) (k := 6) (j := 8) (by omega) (by decide)
  rw [show ((63 : Nat) : Int) = 63 from rfl] at e
  rw [e, show 255 - 63 = 2 ^ 8 - 2 ^ 6 from rfl, t]; omega
theorem n16_1023 (x a : Nat) (hx : x < 65536) (h : x / 1024 = a) : bits .andNot .u16 (x : Int) 1023 = ((a * 1024 : Nat) : Int) := by
  have e := u16_andNot_nat x 1023 hx (by decide)
  have t := and_top (x := x) (k := 10) (j := 16) (by omega) (by decide)
  rw [show ((1023 : Nat) : Int) = 1023 from rfl] at e
  rw [e, show 65535 - 1023 = 2 ^ 16 - 2 ^ 10 from rfl, t]; omega
/-- How many bytes a unit has. -/
def szN (x : Nat) : Nat := if 2047 < x then 3 else if 127 < x ∨ x = 0 then 2 else 1
theorem szN_len (x : Nat) (hx : x < 65536) : (uB x).length = szN x := by
  unfold uB szN
  by_cases h1 : 1 ≤ x ∧ x < 128
  · rw [if_pos h1, if_neg (by omega), if_neg (by omega)]; rfl
  · rw [if_neg h1]
    by_cases h2 : x < 2048
    · rw [if_pos h2, if_neg (by omega), if_pos (by omega)]; rfl
    · rw [if_neg h2, if_pos (by omega)]; rfl
theorem size_any (x : Nat) (w : World) : Calls Tryd.prog 47 #[.int .u16 (x : Int)] w (Rets w (.int .i64 (szN x : Nat))) := by
  unfold szN
  go_enter Tryd.func47, Tryd.ntmps47
  by_cases h1 : 2047 < x
  · have e1 : decide ((2047 : Int) < (x : Int)) = true := by rw [decide_eq_true_iff]; omega
    rw [if_pos h1]
    go_wp2; go_ret; exact ⟨rfl, rfl⟩
  · have e1 : decide ((2047 : Int) < (x : Int)) = false := by rw [decide_eq_false_iff_not]; omega
    rw [if_neg h1]
    by_cases h2 : 127 < x
    · have e2 : decide ((127 : Int) < (x : Int)) = true := by rw [decide_eq_true_iff]; omega
      rw [if_pos (.inl h2)]
      go_wp2; go_ret; exact ⟨rfl, rfl⟩
    · have e2 : decide ((127 : Int) < (x : Int)) = false := by rw [decide_eq_false_iff_not]; omega
      by_cases h3 : x = 0
      · subst h3
        rw [if_pos (.inr rfl)]
        go_wp2; go_ret; exact ⟨rfl, rfl⟩
      · have e3 : decide ((x : Int) = 0) = false := by rw [decide_eq_false_iff_not]; omega
        have e4 : ((x : Int) == 0) = false := by rw [beq_eq_false_iff_ne]; omega
        rw [if_neg (by omega)]
        go_wp2; go_ret; exact ⟨rfl, rfl⟩
/-- A unit's highest bits by its first byte, and how many bytes that begins. -/
def hiN (c : Nat) : Nat × Nat := if c < 128 then (c, 1) else if c < 192 then (0, 0) else if c < 224 then (c - 192, 2) else if c < 240 then (c - 224, 3) else (0, 0)
theorem highest_any (c : Nat) (hc : c < 256) (w : World) : Calls Tryd.prog 46 #[.int .u8 (c : Int)] w (Rets w (.tuple #[.int .u16 ((hiN c).1 : Nat), .int .i64 ((hiN c).2 : Nat)])) := by
  unfold hiN
  go_enter Tryd.func46, Tryd.ntmps46
  by_cases h1 : c < 128
  · have e1 : decide ((c : Int) < 128) = true := by rw [decide_eq_true_iff]; omega
    have u1 : IntKind.u16.wrap (c : Int) = c := IntWalk.u16_in _ (by omega)
    rw [if_pos h1]
    go_wp2; go_ret2; exact ⟨rfl, rfl⟩
  have e1 : decide ((c : Int) < 128) = false := by rw [decide_eq_false_iff_not]; omega
  rw [if_neg h1]
  by_cases h2 : c < 192
  · have e2 : decide ((c : Int) < 192) = true := by rw [decide_eq_true_iff]; omega
    rw [if_pos h2]
    go_wp2; go_ret2; exact ⟨rfl, rfl⟩
  have e2 : decide ((c : Int) < 192) = false := by rw [decide_eq_false_iff_not]; omega
  rw [if_neg h2]
  by_cases h3 : c < 224
  · have e3 : decide ((c : Int) < 224) = true := by rw [decide_eq_true_iff]; omega
    obtain ⟨d, rfl⟩ : ∃ d, c = d + 192 := ⟨c - 192, by omega⟩
    have u0 : IntKind.u8.wrap (((d + 192 : Nat) : Int) - 192) = d := by rw [show (((d + 192 : Nat) : Int) - 192) = d by omega]; exact IntWalk.u8_in _ (by omega)
    have u1 : IntKind.u16.wrap (d : Int) = d := IntWalk.u16_in _ (by omega)
    rw [if_pos h3, Nat.add_sub_cancel]
    go_wp2; go_ret2; exact ⟨rfl, rfl⟩
  have e3 : decide ((c : Int) < 224) = false := by rw [decide_eq_false_iff_not]; omega
  rw [if_neg h3]
  by_cases h4 : c < 240
  · have e4 : decide ((c : Int) < 240) = true := by rw [decide_eq_true_iff]; omega
    obtain ⟨d, rfl⟩ : ∃ d, c = d + 224 := ⟨c - 224, by omega⟩
    have u0 : IntKind.u8.wrap (((d + 224 : Nat) : Int) - 224) = d := by rw [show (((d + 224 : Nat) : Int) - 224) = d by omega]; exact IntWalk.u8_in _ (by omega)
    have u1 : IntKind.u16.wrap (d : Int) = d := IntWalk.u16_in _ (by omega)
    rw [if_pos h4, Nat.add_sub_cancel]
    go_wp2; go_ret2; exact ⟨rfl, rfl⟩
  have e4 : decide ((c : Int) < 240) = false := by rw [decide_eq_false_iff_not]; omega
  rw [if_neg h4]
  go_wp2; go_ret2; exact ⟨rfl, rfl⟩
end Go.Proofs.YtibkdmliolebgaaDoor
