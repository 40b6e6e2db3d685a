/-
  A moment's numbers: Split, the document's Split, bits, Before. Conditions: a date and a clock are numbers of 16 bits.
-/
import Derived.Test.YtdoclbgmbneggaaDoorC
import Derived.Laws.BitsAllLaws
import Derived.Laws.Bits128
namespace Go.Proofs.YtdoclbgmbneggaaDoor
open Go.RowKit
set_option maxRecDepth 100000

theorem i64_and15 (n : Int) : bits .and .i64 n 15 = n % 16 := by
  have h127 : (BitVec.ofInt 64 15).toNat = 2 ^ 4 - 1 := by decide
  have key : (BitVec.ofInt 64 n &&& BitVec.ofInt 64 15).toNat = (n % ((2 ^ 64 : Nat) : Int)).toNat % 2 ^ 4 := by
    rw [BitVec.toNat_and, BitVec.toNat_ofInt, h127, Nat.and_two_pow_sub_one_eq_mod]
  show IntKind.i64.wrap ((BitVec.ofInt 64 n &&& BitVec.ofInt 64 15).toNat : Nat) = n % 16
  rw [key, IntKind.wrap_i64]
  omega
theorem i64_and31 (n : Int) : bits .and .i64 n 31 = n % 32 := by
  have h127 : (BitVec.ofInt 64 31).toNat = 2 ^ 5 - 1 := by decide
  have key : (BitVec.ofInt 64 n &&& BitVec.ofInt 64 31).toNat = (n % ((2 ^ 64 : Nat) : Int)).toNat % 2 ^ 5 := by
    rw [BitVec.toNat_and, BitVec.toNat_ofInt, h127, Nat.and_two_pow_sub_one_eq_mod]
  show IntKind.i64.wrap ((BitVec.ofInt 64 n &&& BitVec.ofInt 64 31).toNat : Nat) = n % 32
  rw [key, IntKind.wrap_i64]
  omega
theorem i64_and63 (n : Int) : bits .and .i64 n 63 = n % 64 := by
  have h127 : (BitVec.ofInt 64 63).toNat = 2 ^ 6 - 1 := by decide
  have key : (BitVec.ofInt 64 n &&& BitVec.ofInt 64 63).toNat = (n % ((2 ^ 64 : Nat) : Int)).toNat % 2 ^ 6 := by
    rw [BitVec.toNat_and, BitVec.toNat_ofInt, h127, Nat.and_two_pow_sub_one_eq_mod]
  show IntKind.i64.wrap ((BitVec.ofInt 64 n &&& BitVec.ofInt 64 63).toNat : Nat) = n % 64
  rw [key, IntKind.wrap_i64]
  omega
theorem ofInt_i64 (a : Nat) (ha : a < 9223372036854775808) : (BitVec.ofInt 64 (a : Int)).toNat = a := by
  rw [BitVec.ofInt_natCast, BitVec.toNat_ofNat]; exact Nat.mod_eq_of_lt (by omega)
theorem i64_or_nat (a b : Nat) (ha : a < 9223372036854775808) (hb : b < 9223372036854775808) : bits .or .i64 (a : Int) (b : Int) = ((a ||| b : Nat) : Int) := by
  have hx : a ||| b < 2 ^ 63 := Nat.or_lt_two_pow (by omega) (by omega)
  show IntKind.i64.wrap ((BitVec.ofInt 64 (a : Int) ||| BitVec.ofInt 64 (b : Int)).toNat : Int) = _
  rw [BitVec.toNat_or, ofInt_i64 a ha, ofInt_i64 b hb, IntKind.wrap_i64]
  omega
theorem or_join (a b k : Nat) (hb : b < 2 ^ k) : a * 2 ^ k ||| b = a * 2 ^ k + b := by
  rw [Nat.mul_comm, ← Nat.two_pow_add_eq_or_of_lt hb]

/-- A moment's numbers. -/
@[irreducible] def yr (d : Nat) : Nat := 1980 + d / 512
@[irreducible] def mo (d : Nat) : Nat := d / 32 % 16
@[irreducible] def da (d : Nat) : Nat := d % 32
@[irreducible] def ho (c : Nat) : Nat := c / 2048
@[irreducible] def mi (c : Nat) : Nat := c / 32 % 64
@[irreducible] def se (c : Nat) : Nat := c % 32 * 2

theorem six_size (y m d h i s : Int) : (Tryd.prog.info? 30).map (·.size) = some (six y m d h i s).size := by kernel_rfl
theorem six_size32 (y m d h i s : Int) : (Tryd.prog.info? 32).map (·.size) = some (six y m d h i s).size := by kernel_rfl

set_option maxHeartbeats 4000000 in
theorem split_any (d c : Nat) (hd : d < 65536) (hc : c < 65536) (w : World) : Calls Tryd.prog 8 #[.agg #[.int .u16 d, .int .u16 c]] w (Gives w (.agg #[.int .i64 (yr d), .int .i64 (mo d), .int .i64 (da d), .int .i64 (ho c), .int .i64 (mi c), .int .i64 (se c)])) := by
  have w1 : IntKind.i64.wrap (d : Int) = d := IntWalk.i64_in _ (by omega)
  have w2 : IntKind.i64.wrap (c : Int) = c := IntWalk.i64_in _ (by omega)
  have a1 : bits BinOp.and IntKind.i64 ((d : Int) / 32) 15 = (mo d : Int) := by rw [i64_and15]; unfold mo; omega
  have a2 : bits BinOp.and IntKind.i64 (d : Int) 31 = (da d : Int) := by rw [i64_and31]; unfold da; omega
  have a3 : bits BinOp.and IntKind.i64 ((c : Int) / 32) 63 = (mi c : Int) := by rw [i64_and63]; unfold mi; omega
  obtain ⟨s5, hs5⟩ : ∃ s, c % 32 = s := ⟨_, rfl⟩
  have a4 : bits BinOp.and IntKind.i64 (c : Int) 31 = (s5 : Int) := by rw [i64_and31]; omega
  have a5 : wrap64 (2 * (s5 : Int)) = (se c : Int) := by unfold wrap64 se; omega
  have e1 : 1980 + (d : Int) / 512 = (yr d : Int) := by unfold yr; omega
  have e2 : (c : Int) / 2048 = (ho c : Int) := by unfold ho; omega
  have e3 : wrap64 (yr d : Int) = (yr d : Int) := by unfold wrap64 yr; omega
  have B1 := Lib.hid ((Below.refl w.heap.size w).alloc (Nat.le_refl _) (.cells #[.int .u16 d, .int .u16 c] 24))
  generalize yr d = Y at *
  generalize mo d = M at *
  generalize da d = D at *
  generalize ho c = H at *
  generalize mi c = I at *
  generalize se c = S at *
  clear hs5 hd hc
  go_enter Tryd.func8, Tryd.ntmps8
  go_wp2_with fail
  go_region
  go_wp2_with fail
  have hW : Whole (((w.alloc (.cells #[.int .u16 d, .int .u16 c] 24)).alloc (.cells (six Y M D H I S) 30)).drew) (w.heap.size + 1) 30 (six Y M D H I S) := by
    have h := Whole.new (w.alloc (.cells #[.int .u16 d, .int .u16 c] 24)) 30 (six Y M D H I S)
    rw [show (w.alloc (.cells #[.int .u16 d, .int .u16 c] 24)).heap.size = w.heap.size + 1 by simp] at h
    exact h
  refine bodyPost_ret (v := .agg (six Y M D H I S)) (results_cell_row (p := 2) (ty := 30) rfl _ _ (w.heap.size + 1) 30 (six Y M D H I S) (0, 0) _ rfl hW Tryd.underlying30 rfl (six_size Y M D H I S)) rfl ?_
  exact ⟨rfl, (B1.out.alloc B1.out.size _).drew⟩

end Go.Proofs.YtdoclbgmbneggaaDoor
