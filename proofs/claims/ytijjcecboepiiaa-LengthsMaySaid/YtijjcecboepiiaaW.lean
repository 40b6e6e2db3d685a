/-
  Contracts of the smallest functions: isWidth, lowest, Reverse, Bits, Number. Conditions: each theorem names the range of its arguments.
-/
import Derived.Test.YtijjcecboepiiaaProg
import Derived.Test.YtijjcecboepiiaaM
import Derived.Test.YtijjcecboepiiaaB
namespace Go.Proofs.Ytijjcecboepiiaa
open Go.RowKit

theorem isWidth_yes (n : Int) (h0 : 0 ≤ n) (h1 : n ≤ 32) (w : World) :
    Calls Try.prog 55 #[.int .i64 n] w fun e w' => e = .returned (.bool true) ∧ w = w' := by
  go_enter Try.func55, Try.ntmps55
  go_wp2
  go_ret
  exact ⟨rfl, rfl⟩
theorem isWidth_no (n : Int) (h : n < 0 ∨ 32 < n) (w : World) :
    Calls Try.prog 55 #[.int .i64 n] w fun e w' => e = .returned (.bool false) ∧ w = w' := by
  rcases h with h | h
  · go_enter Try.func55, Try.ntmps55
    go_wp2
    go_ret
    exact ⟨rfl, rfl⟩
  · have h' : 0 ≤ n := by omega
    have h2 : decide (n ≤ 32) = false := by simp; omega
    go_enter Try.func55, Try.ntmps55
    go_wp2
    go_ret
    exact ⟨rfl, rfl⟩

theorem lowest_num (v n : Nat) (hv : v < 4294967296) (h1 : n ≤ 32) : bits BinOp.and IntKind.u32 (v : Int) ((2 ^ n - 1) % 4294967296) = ((v % 2 ^ n : Nat) : Int) := by
  have hp := pow_le_32 h1
  have hp1 : 1 ≤ 2 ^ n := Nat.one_le_two_pow
  have e : ((2 ^ n - 1) % 4294967296 : Int) = ((2 ^ n - 1 : Nat) : Int) := by
    have hc : ((2 : Int) ^ n) = ((2 ^ n : Nat) : Int) := (Int.natCast_pow 2 n).symm
    rw [hc]
    generalize 2 ^ n = p at *
    omega
  rw [e, u32_and_nat v _ hv (by omega), Nat.and_two_pow_sub_one_eq_mod]

theorem lowest_any (v n : Nat) (hv : v < 4294967296) (h1 : n ≤ 32) (w : World) :
    Calls Try.prog 56 #[.int .u32 v, .int .i64 n] w fun e w' => e = .returned (.int .u32 (v % 2^n : Nat)) ∧ w = w' := by
  go_enter Try.func56, Try.ntmps56
  go_wp2
  go_ret
  exact ⟨ret_int (lowest_num v n hv h1), rfl⟩

theorem reverse_no (v n : Int) (h : n < 0 ∨ 32 < n) (w : World) :
    Calls Try.prog 47 #[.int .u32 v, .int .i64 n] w fun e w' => e = .returned (.int .u32 0) ∧ w = w' := by
  go_enter Try.func47, Try.ntmps47
  go_wp2_with (go_at_call 55; refine (isWidth_no n h _).mono ?_; rintro e w' ⟨rfl, rfl⟩)
  go_ret
  exact ⟨rfl, rfl⟩

theorem reverse_yes (v n : Nat) (hv : v < 4294967296) (h : n ≤ 32) (w : World) :
    Calls Try.prog 47 #[.int .u32 v, .int .i64 n] w fun e w' => e = .returned (.int .u32 (rev v n)) ∧ w = w' := by
  go_enter Try.func47, Try.ntmps47
  go_wp2_with (go_at_call 55; refine (isWidth_yes n (by omega) (by omega) _).mono ?_; rintro e w' ⟨rfl, rfl⟩)
  go_loop [0, 5, 10] (fun x o i => ∃ k : Nat, k ≤ n ∧ i = .int .i64 k ∧ x = .int .u32 (v / 2 ^ k : Nat) ∧ o = .int .u32 (rev v k)) (fun _ _ i => n - (intOf i).toNat)
  case atStart => exact ⟨0, Nat.zero_le _, rfl, by simp, rfl⟩
  case round =>
    obtain ⟨k, hk, rfl, rfl, rfl⟩ := hrel
    by_cases hlt : k < n
    · have h1 := rev_lt v k
      have hr := rev_succ v k
      have hd : v / 2 ^ (k + 1) = v / 2 ^ k / 2 := by rw [Nat.pow_succ, Nat.div_div_eq_div_mul]
      have hx1 : v / 2 ^ k < 4294967296 := Nat.lt_of_le_of_lt (Nat.div_le_self _ _) hv
      have hp : 2 ^ k ≤ 2147483648 := by
        have := Nat.pow_le_pow_right (n := 2) (by omega) (show k ≤ 31 by omega)
        simpa using this
      have e1 : Hid (bits BinOp.or IntKind.u32 ((rev v k : Int) * 2) (bits BinOp.and IntKind.u32 ((v / 2 ^ k : Nat) : Int) 1) = (rev v (k + 1) : Int)) := by
        rw [show (1 : Int) = ((1 : Nat) : Int) from rfl, u32_and_nat _ _ hx1 (by omega), nat_mask1]
        rw [show ((rev v k : Int) * 2) = ((rev v k * 2 : Nat) : Int) by omega, u32_or_nat _ _ (by omega) (by omega), nat_join 1 _ _ (by omega) (by omega), hr]
        congr 1; omega
      have e2 : Hid (((v / 2 ^ k : Nat) : Int) / 2 = ((v / 2 ^ (k + 1) : Nat) : Int)) := by rw [hd]; exact (Int.natCast_ediv _ _).symm
      clear hr hd
      generalize v / 2 ^ k = x at *
      go_wp2
      go_round
      case rel => exact ⟨k + 1, by omega, by go_num, by rw [e2.out], by rw [e1.out]⟩
      case measure => simp [intOf]; omega
    · obtain rfl : k = n := by omega
      go_wp2
      go_ret
      exact ⟨rfl, rfl⟩

/-- What Bits gives, and every call that makes one row of its own. -/
def GivesRow (w : World) (e : TypeId) (size n : Nat) (xs : List Value) (end_ : Ending) (w' : World) : Prop :=
  ∃ v, end_ = .returned v ∧ w'.ownsRow w.heap.size e size v n xs ∧ Below w.heap.size w w'

theorem bool_info : (Try.prog.info? 4).map (fun i => (i.zero, i.size, i.bytes)) = some (some (.bool false), 1, 1) := by kernel_rfl
theorem byte_info : (Try.prog.info? 5).map (fun i => (i.zero, i.size, i.bytes)) = some (some (.int .u8 0), 1, 1) := by kernel_rfl

theorem bits_any (v n : Nat) (hv : v < 4294967296) (h : n ≤ 32) (w : World) :
    Calls Try.prog 48 #[.int .u32 v, .int .i64 n] w (GivesRow w 4 1 n ((bitsOf v n).map .bool)) := by
  obtain ⟨i0, hi0, hz0, hz1, hz2⟩ := info_parts bool_info
  go_enter Try.func48, Try.ntmps48
  go_wp2
  go_loopw [0, 5, 6] (fun x s i wr => ∃ k : Nat, k ≤ n ∧ i = .int .i64 k ∧ x = .int .u32 (v / 2 ^ k : Nat) ∧ wr.ownsRow w.heap.size 4 1 s k ((bitsOf v k).map .bool) ∧ Below w.heap.size w wr) (fun _ _ i _ => n - (intOf i).toNat)
  case atStart => exact ⟨0, Nat.zero_le _, rfl, by simp, World.ownsRow_nil _ _ _ _, Below.refl _ _⟩
  case round =>
    obtain ⟨k, hk, rfl, rfl, hown, hbel⟩ := hrel
    by_cases hlt : k < n
    · have hb : Hid (bitsOf v (k + 1) = bitsOf v k ++ [v / 2 ^ k % 2 == 1]) := bitsOf_succ v k
      have hd : Hid (v / 2 ^ (k + 1) = v / 2 ^ k / 2) := by
        show _ = _
        rw [Nat.pow_succ, Nat.div_div_eq_div_mul]
      have hx1 : v / 2 ^ k < 4294967296 := Nat.lt_of_le_of_lt (Nat.div_le_self _ _) hv
      have hsz := hbel.size
      generalize v / 2 ^ k = x at *
      have hlt1 := hown.lt
      go_wp2_with (at_builtin; refine wpList_append_seen _ rfl (.tmp 12) (.tmp 16) _ rfl w.heap.size 4 i0 _ 1 1 Try.underlying54 hi0 hz0 hz1 hz2 rfl (by omega) u5 k _ rfl (hown.alloc _) _ _ 1 1 _ rfl (seen_one _ _ _) (by simp [Value.oneCell']) (by simp [maxLen]; omega) (by omega) (by simp; omega) ?_; intro v1 w1 hown1 hg1 hat1)
      go_roundw
      case rel =>
        refine ⟨k + 1, by omega, by go_num, by rw [hd.out]; rfl, ?_, (hbel.alloc hsz _).grown hg1 (by simp; omega) (fun j hj => (hlt1 j hj).1)⟩
        rw [hb.out, List.map_append]
        have e : ((x : Int) % 2 == 1) = (x % 2 == 1) := by rw [Bool.eq_iff_iff]; simp; omega
        rw [e] at hown1
        exact hown1
      case measure => simp [intOf]; omega
    · obtain rfl : k = n := by omega
      go_wp2
      go_ret
      exact ⟨_, rfl, hown, hbel⟩

end Go.Proofs.Ytijjcecboepiiaa
