/-
  Contracts of the smallest functions: isWidth, lowest, Reverse, Bits, Number. Conditions: each theorem names the range of its arguments.
-/
import Derived.Test.YtnnpiblnjflceaaProg
import Derived.Test.YtnnpiblnjflceaaM
import Derived.Test.YtnnpiblnjflceaaB
namespace Go.Proofs.Ytnnpiblnjflceaa
open Go.RowKit

theorem isWidth_yes (n : Int) (h0 : 0 ≤ n) (h1 : n ≤ 32) (w : World) :
    Calls Try.prog 29 #[.int .i64 n] w fun e w' => e = .returned (.bool true) ∧ w = w' := by
  go_enter Try.func29, Try.ntmps29
  go_wp2
  go_ret
  exact ⟨rfl, rfl⟩
theorem isWidth_no (n : Int) (h : n < 0 ∨ 32 < n) (w : World) :
    Calls Try.prog 29 #[.int .i64 n] w fun e w' => e = .returned (.bool false) ∧ w = w' := by
  rcases h with h | h
  · go_enter Try.func29, Try.ntmps29
    go_wp2
    go_ret
    exact ⟨rfl, rfl⟩
  · have h' : 0 ≤ n := by omega
    have h2 : decide (n ≤ 32) = false := by simp; omega
    go_enter Try.func29, Try.ntmps29
    go_wp2
    go_ret
    exact ⟨rfl, rfl⟩

theorem lowest_num (v n : Nat) (hv : v < 4294967296) (h1 : n ≤ 32) : bits BinOp.and IntKind.u32 (v : Int) ((2 ^ n - 1) % 4294967296) = ((v % 2 ^ n : Nat) : Int) := by
  have hp := pow_le_32 h1
  have hp1 : 1 ≤ 2 ^ n := Nat.one_le_two_pow
  have e : ((2 ^ n - 1) % 4294967296 : Int) = ((2 ^ n - 1 : Nat) : Int) := by
    have hc : ((2 : Int) ^ n) = ((2 ^ n : Nat) : Int) := (Int.natCast_pow 2 n).symm
    rw [hc]
    generalize 2 ^ n = p at *
    omega
  rw [e, u32_and_nat v _ hv (by omega), Nat.and_two_pow_sub_one_eq_mod]

theorem lowest_any (v n : Nat) (hv : v < 4294967296) (h1 : n ≤ 32) (w : World) :
    Calls Try.prog 30 #[.int .u32 v, .int .i64 n] w fun e w' => e = .returned (.int .u32 (v % 2^n : Nat)) ∧ w = w' := by
  go_enter Try.func30, Try.ntmps30
  go_wp2
  go_ret
  exact ⟨ret_int (lowest_num v n hv h1), rfl⟩

theorem reverse_no (v n : Int) (h : n < 0 ∨ 32 < n) (w : World) :
    Calls Try.prog 67 #[.int .u32 v, .int .i64 n] w fun e w' => e = .returned (.int .u32 0) ∧ w = w' := by
  go_enter Try.func67, Try.ntmps67
  go_wp2_with (go_at_call 29; refine (isWidth_no n h _).mono ?_; rintro e w' ⟨rfl, rfl⟩)
  go_ret
  exact ⟨rfl, rfl⟩

theorem reverse_yes (v n : Nat) (hv : v < 4294967296) (h : n ≤ 32) (w : World) :
    Calls Try.prog 67 #[.int .u32 v, .int .i64 n] w fun e w' => e = .returned (.int .u32 (rev v n)) ∧ w = w' := by
  go_enter Try.func67, Try.ntmps67
  go_wp2_with (go_at_call 29; refine (isWidth_yes n (by omega) (by omega) _).mono ?_; rintro e w' ⟨rfl, rfl⟩)
  go_loop [0, 5, 10] (fun x o i => ∃ k : Nat, k ≤ n ∧ i = .int .i64 k ∧ x = .int .u32 (v / 2 ^ k : Nat) ∧ o = .int .u32 (rev v k)) (fun _ _ i => n - (intOf i).toNat)
  case atStart => exact ⟨0, Nat.zero_le _, rfl, by simp, rfl⟩
  case round =>
    obtain ⟨k, hk, rfl, rfl, rfl⟩ := hrel
    by_cases hlt : k < n
    · have h1 := rev_lt v k
      have hr := rev_succ v k
      have hd : v / 2 ^ (k + 1) = v / 2 ^ k / 2 := by rw [Nat.pow_succ, Nat.div_div_eq_div_mul]
      have hx1 : v / 2 ^ k < 4294967296 := Nat.lt_of_le_of_lt (Nat.div_le_self _ _) hv
      have hp : 2 ^ k ≤ 2147483648 := by
        have := Nat.pow_le_pow_right (n := 2) (by omega) (show k ≤ 31 by omega)
        simpa using this
      have e1 : Hid (bits BinOp.or IntKind.u32 ((rev v k : Int) * 2) (bits BinOp.and IntKind.u32 ((v / 2 ^ k : Nat) : Int) 1) = (rev v (k + 1) : Int)) := by
        rw [show (1 : Int) = ((1 : Nat) : Int) from rfl, u32_and_nat _ _ hx1 (by omega), nat_mask1]
        rw [show ((rev v k : Int) * 2) = ((rev v k * 2 : Nat) : Int) by omega, u32_or_nat _ _ (by omega) (by omega), nat_join 1 _ _ (by omega) (by omega), hr]
        congr 1; omega
      have e2 : Hid (((v / 2 ^ k : Nat) : Int) / 2 = ((v / 2 ^ (k + 1) : Nat) : Int)) := by rw [hd]; exact (Int.natCast_ediv _ _).symm
      clear hr hd
      generalize v / 2 ^ k = x at *
      go_wp2
      go_round
      case rel => exact ⟨k + 1, by omega, by go_num, by rw [e2.out], by rw [e1.out]⟩
      case measure => simp [intOf]; omega
    · obtain rfl : k = n := by omega
      go_wp2
      go_ret
      exact ⟨rfl, rfl⟩

/-- What Bits gives, and every call that makes one row of its own. -/
def GivesRow (w : World) (e : TypeId) (size n : Nat) (xs : List Value) (end_ : Ending) (w' : World) : Prop :=
  ∃ v, end_ = .returned v ∧ w'.ownsRow w.heap.size e size v n xs ∧ Below w.heap.size w w'

theorem bool_info : (Try.prog.info? 4).map (fun i => (i.zero, i.size, i.bytes)) = some (some (.bool false), 1, 1) := by kernel_rfl
theorem byte_info : (Try.prog.info? 5).map (fun i => (i.zero, i.size, i.bytes)) = some (some (.int .u8 0), 1, 1) := by kernel_rfl

end Go.Proofs.Ytnnpiblnjflceaa
