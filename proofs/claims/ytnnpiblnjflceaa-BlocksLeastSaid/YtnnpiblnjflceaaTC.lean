/-
  Contracts of match.Right, in the program and in the document. Conditions: none.
-/
import Derived.Test.YtnnpiblnjflceaaTA
import Derived.Test.YtnnpiblnjflceaaLT
namespace Go.Proofs.Ytnnpiblnjflceaa
open Go.RowKit
set_option maxRecDepth 100000

theorem beq_dec (a b : Int) : (a == b) = decide (a = b) := by
  by_cases h : a = b
  · subst h; simp
  · rw [decide_eq_false h]; simpa using h

/-- A token's value. -/
def tokV (t : Tok) : Value := .agg #[.int .u8 t.lit, .int .i64 t.len, .int .i64 t.dist]

theorem right_any (l : Nat) (n d : Int) (w : World) : Calls Try.prog 52 #[.agg #[.int .u8 l, .int .i64 n, .int .i64 d]] w (Gives w (.bool (rightT ⟨l, n, d⟩))) := by
  obtain ⟨r, hr⟩ : ∃ r, rightT ⟨l, n, d⟩ = r := ⟨_, rfl⟩
  rw [hr]
  have HR := Lib.hid hr; clear hr
  by_cases h0 : n = 0
  · subst h0
    go_enter Try.func52, Try.ntmps52
    go_wp2
    go_ret
    refine ⟨?_, (Below.refl _ _).alloc (Nat.le_refl _) _⟩
    rw [← HR.out]
    simp [rightT, beq_dec]
  · have d0 : (n == 0) = false := by simpa using h0
    go_enter Try.func52, Try.ntmps52
    go_wp2
    all_goals go_ret
    all_goals (refine ⟨?_, (Below.refl _ _).alloc (Nat.le_refl _) _⟩; have hR := HR.out; simp [rightT] at hR; rw [← hR]; congr 2; simp [*, beq_dec])
    all_goals (try omega)

theorem rright_any (l : Nat) (n d : Int) (w : World) : Calls Try.prog 19 #[.agg #[.int .u8 l, .int .i64 n, .int .i64 d]] w (Gives w (.bool (rightT ⟨l, n, d⟩))) := by
  obtain ⟨r, hr⟩ : ∃ r, rightT ⟨l, n, d⟩ = r := ⟨_, rfl⟩
  rw [hr]
  have HR := Lib.hid hr; clear hr
  by_cases h0 : n = 0
  · subst h0
    go_enter Try.func19, Try.ntmps19
    go_wp2
    go_ret
    refine ⟨?_, (Below.refl _ _).alloc (Nat.le_refl _) _⟩
    rw [← HR.out]
    simp [rightT, beq_dec]
  · have d0 : (n == 0) = false := by simpa using h0
    go_enter Try.func19, Try.ntmps19
    go_wp2
    all_goals go_ret
    all_goals (refine ⟨?_, (Below.refl _ _).alloc (Nat.le_refl _) _⟩; have hR := HR.out; simp [rightT] at hR; rw [← hR]; congr 2; simp [*, beq_dec])
    all_goals (try omega)


end Go.Proofs.Ytnnpiblnjflceaa
