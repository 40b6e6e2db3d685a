/-
  The program's Compare, and what of the library stands behind it. No conditions.
-/
import Derived.Test.YtmojclbejmnikaaYG
import Derived.Test.YtmojclbejmnikaaPG
import Derived.Lib.Bytealg
namespace Go.Proofs.Ytmojclbejmnikaa
open Go Go.RowKit
set_option maxRecDepth 100000

def wideB (t : Int) : Bool := decide (t = 5) || decide (t = 6)
set_option maxHeartbeats 4000000 in
theorem wide_any (t : Int) (w : World) : Calls Try.prog 20 #[.int .i64 t] w (Rets w (.bool (wideB t))) := by
  unfold wideB
  by_cases h5 : t = 5
  · subst h5; go_enter Try.func20, Try.ntmps20; go_wp2_with fail; go_ret; exact ⟨rfl, rfl⟩
  have e5 : (t == 5) = false := by rw [beq_eq_false_iff_ne]; exact h5
  rw [decide_eq_false h5, Bool.false_or]
  have e6 : (t == 6) = decide (t = 6) := by rw [Bool.eq_iff_iff]; simp
  clear h5
  go_enter Try.func20, Try.ntmps20; go_wp2_with fail; go_ret; exact ⟨rfl, rfl⟩

/-- How two numbers compare. -/
def cmpI (a b : Int) : Int := if a < b then -1 else if b < a then 1 else 0
def cmpT (a b : ByteArray) : Int := if blt a b then -1 else if blt b a then 1 else 0
set_option maxHeartbeats 4000000 in
theorem cmpInt_any (a b : Int) (w : World) : Calls Try.prog 37 #[.int .i64 a, .int .i64 b] w (Rets w (.int .i64 (cmpI a b))) := by
  obtain ⟨R, hR⟩ : ∃ R, cmpI a b = R := ⟨_, rfl⟩
  rw [hR]
  unfold cmpI at hR
  by_cases h1 : a < b
  · rw [if_pos h1] at hR; subst hR
    have d1 : decide (a < b) = true := decide_eq_true h1
    clear h1
    go_enter Try.func37, Try.ntmps37; go_wp2; go_ret; exact ⟨rfl, rfl⟩
  rw [if_neg h1] at hR
  have d1 : decide (a < b) = false := decide_eq_false h1
  clear h1
  by_cases h2 : b < a
  · rw [if_pos h2] at hR; subst hR
    have d2 : decide (b < a) = true := decide_eq_true h2
    clear h2
    go_enter Try.func37, Try.ntmps37; go_wp2; go_ret; exact ⟨rfl, rfl⟩
  rw [if_neg h2] at hR; subst hR
  have d2 : decide (b < a) = false := decide_eq_false h2
  clear h2
  go_enter Try.func37, Try.ntmps37; go_wp2; go_ret; exact ⟨rfl, rfl⟩
set_option maxHeartbeats 4000000 in
theorem cmpU_any (a b : Nat) (w : World) : Calls Try.prog 39 #[.int .u64 a, .int .u64 b] w (Rets w (.int .i64 (cmpI a b))) := by
  obtain ⟨R, hR⟩ : ∃ R, cmpI a b = R := ⟨_, rfl⟩
  rw [hR]
  unfold cmpI at hR
  by_cases h1 : (a : Int) < b
  · rw [if_pos h1] at hR; subst hR
    have d1 : decide ((a : Int) < b) = true := decide_eq_true h1
    have d3 : decide (a < b) = true := decide_eq_true (by omega)
    clear h1
    go_enter Try.func39, Try.ntmps39; go_wp2; go_ret; exact ⟨rfl, rfl⟩
  rw [if_neg h1] at hR
  have d1 : decide ((a : Int) < b) = false := decide_eq_false h1
  have d3 : decide (a < b) = false := decide_eq_false (by omega)
  clear h1
  by_cases h2 : (b : Int) < a
  · rw [if_pos h2] at hR; subst hR
    have d2 : decide ((b : Int) < a) = true := decide_eq_true h2
    have d4 : decide (b < a) = true := decide_eq_true (by omega)
    clear h2
    go_enter Try.func39, Try.ntmps39; go_wp2; go_ret; exact ⟨rfl, rfl⟩
  rw [if_neg h2] at hR; subst hR
  have d2 : decide ((b : Int) < a) = false := decide_eq_false h2
  have d4 : decide (b < a) = false := decide_eq_false (by omega)
  clear h2
  go_enter Try.func39, Try.ntmps39; go_wp2; go_ret; exact ⟨rfl, rfl⟩
theorem comp_blt : ∀ x y : List UInt8, Lib.compareBytes x y = if Op.bytesLess x y then -1 else if Op.bytesLess y x then 1 else 0
  | [], [] => by simp [Lib.compareBytes, Op.bytesLess]
  | [], _ :: _ => by simp [Lib.compareBytes, Op.bytesLess]
  | _ :: _, [] => by simp [Lib.compareBytes, Op.bytesLess]
  | a :: x, b :: y => by
    rw [Lib.compareBytes, bl_cons, bl_cons, comp_blt x y]
    simp only [UInt8.lt_iff_toNat_lt]
    by_cases h1 : a.toNat < b.toNat
    · rw [if_pos h1, if_pos h1, if_pos rfl]
    rw [if_neg h1, if_neg h1]
    by_cases h2 : b.toNat < a.toNat
    · have h3 : ¬ a.toNat = b.toNat := by omega
      simp [h2, h3]
    · have h3 : a.toNat = b.toNat := by omega
      simp [h3]
theorem comp_text (a b : ByteArray) : Lib.compareBytes a.data.toList b.data.toList = cmpT a b := by
  rw [comp_blt]; unfold cmpT blt; rw [ByteArray.toList_eq, ByteArray.toList_eq]
theorem cmpExt (a b : ByteArray) (w : World) : (callFunc 58 #[.string a, .string b]).run Try.prog w = .ok (.value (.int .i64 (cmpT a b))) w := by
  rw [← comp_text, run_callFunc_extern (P := Try.prog) Try.func58 (by kernel_rfl) rfl (by kernel_rfl) (by kernel_rfl), Lib.run_compareString]; rfl
theorem cmpStr_any (a b : ByteArray) (w : World) : Calls Try.prog 52 #[.string a, .string b] w (Rets w (.int .i64 (cmpT a b))) := by
  have hx := cmpExt a b
  go_enter Try.func52, Try.ntmps52
  go_wp2
  go_ret
  exact ⟨rfl, rfl⟩
theorem compare_any (a b : ByteArray) (w : World) : Calls Try.prog 38 #[.string a, .string b] w (Rets w (.int .i64 (cmpT a b))) := by
  go_enter Try.func38, Try.ntmps38
  go_wp2_with (go_at_call 52; refine (cmpStr_any a b _).mono ?_; rintro e w1 ⟨rfl, rfl⟩)
  go_ret
  exact ⟨rfl, rfl⟩
end Go.Proofs.Ytmojclbejmnikaa
