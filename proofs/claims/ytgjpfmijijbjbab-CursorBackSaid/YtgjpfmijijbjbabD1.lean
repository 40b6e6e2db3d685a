/-
  Contracts of a nil cursor, and the walk of CursorBack where a number may not have so many bytes. Conditions: each theorem names them.
-/
import Derived.Test.YtgjpfmijijbjbabC5
namespace Go.Proofs.Ytgjpfmijijbjbab
open Go.RowKit

def LawPost (w : World) (e : Ending) (w' : World) : Prop := e = .returned (.bool true) ∧ Below w.heap.size w w'

theorem atC_nil (w : World) : Calls Try.prog 12 #[.pointer none] w fun e w' => e = .returned (.int .i64 0) ∧ w = w' := by
  go_enter Try.func12, Try.ntmps12
  go_wp2
  go_ret
  exact ⟨rfl, rfl⟩
theorem endC_nil (w : World) : Calls Try.prog 7 #[.pointer none] w fun e w' => e = .returned (.int .i64 1) ∧ w = w' := by
  go_enter Try.func7, Try.ntmps7
  go_wp2_with (first | (go_at_call 11; refine (leftC_nil _).mono ?_; rintro e w0 ⟨rfl, rfl⟩) | (go_at_call 6; refine (errC_nil _).mono ?_; rintro e w2 ⟨rfl, rfl⟩))
  go_ret
  exact ⟨rfl, rfl⟩
theorem next_nil (w : World) : Calls Try.prog 16 #[.pointer none, .int .i64 1, .bool true] w fun e w' => e = .returned (.slice none 0 0) ∧ w = w' := by
  go_enter Try.func16, Try.ntmps16
  go_wp2_with (first | (go_at_call 11; refine (leftC_nil _).mono ?_; rintro e w0 ⟨rfl, rfl⟩) | (go_at_call 5; refine (failC_nil 6 _).mono ?_; rintro e w2 ⟨rfl, rfl⟩) | (go_at_call 6; refine (errC_nil _).mono ?_; rintro e w2 ⟨rfl, rfl⟩))
  go_ret
  exact ⟨rfl, rfl⟩
theorem bigC_nil (w : World) : Calls Try.prog 8 #[.pointer none, .int .i64 1] w fun e w' => e = .returned (.int .u64 0) ∧ w = w' := by
  go_enter Try.func8, Try.ntmps8
  go_wp2_with (first | (go_at_call 17; refine (widthC_yes 1 (.inl rfl) _).mono ?_; rintro e w0 ⟨rfl, rfl⟩) | (go_at_call 16; refine (next_nil _).mono ?_; rintro e w2 ⟨rfl, rfl⟩))
  go_rounds 1
  go_ret
  exact ⟨rfl, rfl⟩
theorem littleC_nil (w : World) : Calls Try.prog 9 #[.pointer none, .int .i64 1] w fun e w' => e = .returned (.int .u64 0) ∧ w = w' := by
  go_enter Try.func9, Try.ntmps9
  go_wp2_with (first | (go_at_call 17; refine (widthC_yes 1 (.inl rfl) _).mono ?_; rintro e w0 ⟨rfl, rfl⟩) | (go_at_call 16; refine (next_nil _).mono ?_; rintro e w2 ⟨rfl, rfl⟩))
  go_rounds 1
  go_ret
  exact ⟨rfl, rfl⟩
theorem clone_nil (w : World) : Calls Try.prog 18 #[.slice none 0 0] w fun e w' => e = .returned (.slice none 0 0) ∧ w = w' := by
  have q33 : ∀ (w : World) (a : Option Addr) (n c n' c' : Nat), (binOp .eql 29 (.slice a n c) (.slice none n' c')).run Try.prog w = .ok (.bool a.isNone) w := fun w a n c n' c' => Lib.run_eql_slice_nil w _ _ a n c n' c' Try.underlying29
  go_enter Try.func18, Try.ntmps18
  go_wp2
  go_ret
  exact ⟨rfl, rfl⟩
theorem takeC_nil (w : World) : Calls Try.prog 10 #[.pointer none, .int .i64 1] w fun e w' => e = .returned (.slice none 0 0) ∧ w = w' := by
  go_enter Try.func10, Try.ntmps10
  go_wp2_with (first | (go_at_call 16; refine (next_nil _).mono ?_; rintro e w2 ⟨rfl, rfl⟩) | (go_at_call 18; refine (clone_nil _).mono ?_; rintro e w2 ⟨rfl, rfl⟩))
  go_ret
  exact ⟨rfl, rfl⟩
theorem nxt_first (a b : List Nat) (k : Nat) (hk : a.length = k) : nxt (a ++ b) 0 0 k true = (a, k, 0) := by
  have hz : cerr 0 true (k : Int) (((a ++ b).length : Int) - (0 : Nat)) = 0 := by
    unfold cerr
    simp only [ne_eq, not_true, if_false]
    rw [if_neg (by simp), if_neg (by simp; omega)]
  unfold nxt
  rw [if_pos hz]
  simp only [Int.toNat_natCast, List.drop_zero, Nat.zero_add]
  rw [List.take_append_of_le_length (by omega), List.take_of_length_le (by omega)]
theorem nxt_last (a b : List Nat) (k : Nat) (hk : a.length = k) (hb : b.length = k) : nxt (a ++ b) k 0 k true = (b, k + k, 0) := by
  have hz : cerr 0 true (k : Int) (((a ++ b).length : Int) - k) = 0 := by
    unfold cerr
    simp only [ne_eq, not_true, if_false]
    rw [if_neg (by simp), if_neg (by simp; omega)]
  unfold nxt
  rw [if_pos hz]
  simp only [Int.toNat_natCast]
  rw [List.drop_append_of_le_length (by omega), List.drop_of_length_le (by omega), List.nil_append, List.take_of_length_le (by omega)]

theorem shifts (v k t : Nat) (h : t + 8 * k = 64) : ((v % 256 ^ k : Nat) : Int) = IntKind.u64.wrap ((v : Int) * 2 ^ t) / 2 ^ t := by
  have e1 : IntKind.u64.wrap ((v : Int) * 2 ^ t) = ((v * 2 ^ t % 18446744073709551616 : Nat) : Int) := by
    rw [IntKind.wrap_u64, show ((v : Int) * 2 ^ t) = ((v * 2 ^ t : Nat) : Int) by simp]
    omega
  rw [e1, show ((2 : Int) ^ t) = ((2 ^ t : Nat) : Int) from (Int.natCast_pow 2 t).symm, ← Int.natCast_ediv]
  congr 1
  rw [show 18446744073709551616 = 2 ^ t * 2 ^ (8 * k) by rw [← Nat.pow_add, h], Nat.mul_comm v, Nat.mul_mod_mul_left, Nat.mul_div_cancel_left _ (Nat.two_pow_pos t), Nat.pow_mul]

set_option maxHeartbeats 2000000 in
set_option maxRecDepth 100000 in
theorem cursorBack_no (v w0 : Nat) (n : Int) (h : ¬ Wide n) (w : World) :
    Calls Try.prog 3 #[.int .u64 v, .int .u64 w0, .int .i64 n] w (LawPost w) := by
  have h1 : (n != 1) = true := by simp; intro e; exact h (.inl e)
  have h2 : (n != 2) = true := by simp; intro e; exact h (.inr (.inl e))
  have h4 : (n != 4) = true := by simp; intro e; exact h (.inr (.inr (.inl e)))
  have h8 : (n != 8) = true := by simp; intro e; exact h (.inr (.inr (.inr e)))
  have HW := Lib.hid h; clear h
  go_enter Try.func3, Try.ntmps3
  go_wp2_with (first | (go_at_call 4; refine (fixed2_yes _).mono ?_; rintro e w1 ⟨rfl, hb1⟩) | (go_at_call 5; refine (failC_nil 2 _).mono ?_; rintro e w2 ⟨rfl, rfl⟩) | (go_at_call 6; refine (errC_nil _).mono ?_; rintro e w2 ⟨rfl, rfl⟩) | (go_at_call 7; refine (endC_nil _).mono ?_; rintro e w2 ⟨rfl, rfl⟩) | (go_at_call 8; refine (bigC_nil _).mono ?_; rintro e w2 ⟨rfl, rfl⟩) | (go_at_call 9; refine (littleC_nil _).mono ?_; rintro e w2 ⟨rfl, rfl⟩) | (go_at_call 10; refine (takeC_nil _).mono ?_; rintro e w2 ⟨rfl, rfl⟩) | (go_at_call 11; refine (leftC_nil _).mono ?_; rintro e w2 ⟨rfl, rfl⟩) | (go_at_call 12; refine (atC_nil _).mono ?_; rintro e w2 ⟨rfl, rfl⟩) | (go_at_call 15; fail))
  refine (big_go none 0 0 [] _ (seen_nil _ _) (Nat.zero_le _) (by simp) v 0 (by omega) n (.inr ⟨HW.out, rfl⟩)).mono ?_; rintro e w2 ⟨g2, rfl, hW2, hg2, hb2⟩
  rw [List.nil_append] at hW2 ⊢
  have HS2 := Lib.hid (seen_block hW2)
  have HB2 := Lib.hid (hb1.trans (hb2.mono hb1.size))
  clear hW2 hb2 hb1
  go_wp2_with fail
  refine (little_go _ _ _ _ _ HS2.out (Nat.le_refl _) (by rw [List.length_reverse, leb_length]; omega) w0 0 (by omega) n (.inr ⟨HW.out, rfl⟩)).mono ?_; rintro e w3 ⟨g3, rfl, hW3, hg3, hb3⟩
  have HS3 := Lib.hid (seen_block hW3)
  have HB3 := Lib.hid (HB2.out.trans (hb3.mono HB2.out.size))
  clear hW3 hb3
  go_wp2_with fail
  refine (newC_any _ _ _ _ _ HS3.out (Nat.le_refl _) (by rw [List.length_append, List.length_reverse, leb_length, leb_length]; omega)).mono ?_; rintro e w4 ⟨g, sv, rfl, hC4, hb4⟩
  have HC4 := Lib.hid hC4
  have HB4 := Lib.hid (HB3.out.trans (hb4.mono HB3.out.size))
  have hgw : w.heap.size ≤ g := Nat.le_trans HB3.out.size hC4.1
  clear hC4 hb4
  go_wp2_with fail
  refine (leftC_any _ g sv _ 0 0 _ HC4.out (by simp [leb]) (Nat.zero_le _)).mono ?_; rintro e w5 ⟨rfl, rfl⟩
  rw [show (((leb v 0).reverse ++ leb w0 0).length - 0) = 0 by simp]
  go_wp2_with fail
  go_ret
  exact ⟨rfl, HB4.out.drew⟩

end Go.Proofs.Ytgjpfmijijbjbab
