/-
  Contracts of the smallest functions of match: Right, size, farthest. Conditions: each theorem names the range of its arguments.
-/
import Derived.Test.YthlgceeldnhhbaaA
import Derived.Test.YthlgceeldnhhbaaB
namespace Go.Proofs.Ythlgceeldnhhbaa
open Go.RowKit
set_option maxRecDepth 100000

/-- A token's value. -/
def tokV (t : Tok) : Value := .agg #[.int .u8 t.lit, .int .i64 t.len, .int .i64 t.dist]

/-- The answer, and nothing that was there has changed. -/
def Gives (w : World) (v : Value) (e : Ending) (w' : World) : Prop := e = .returned v ∧ Below w.heap.size w w'

theorem beq_dec (a b : Int) : (a == b) = decide (a = b) := by
  by_cases h : a = b
  · subst h; simp
  · rw [decide_eq_false h]; simpa using h

theorem right_any (l : Nat) (n d : Int) (w : World) : Calls Try.prog 10 #[.agg #[.int .u8 l, .int .i64 n, .int .i64 d]] w (Gives w (.bool (rightT ⟨l, n, d⟩))) := by
  obtain ⟨r, hr⟩ : ∃ r, rightT ⟨l, n, d⟩ = r := ⟨_, rfl⟩
  rw [hr]
  have HR := Lib.hid hr; clear hr
  by_cases h0 : n = 0
  · subst h0
    go_enter Try.func10, Try.ntmps10
    go_wp2
    go_ret
    refine ⟨?_, (Below.refl _ _).alloc (Nat.le_refl _) _⟩
    rw [← HR.out]
    simp [rightT, beq_dec]
  · have d0 : (n == 0) = false := by simpa using h0
    go_enter Try.func10, Try.ntmps10
    go_wp2
    all_goals go_ret
    all_goals (refine ⟨?_, (Below.refl _ _).alloc (Nat.le_refl _) _⟩; have hR := HR.out; simp [rightT] at hR; rw [← hR]; congr 2; simp [*, beq_dec])
    all_goals (try omega)

theorem rright_any (l : Nat) (n d : Int) (w : World) : Calls Try.prog 11 #[.agg #[.int .u8 l, .int .i64 n, .int .i64 d]] w (Gives w (.bool (rightT ⟨l, n, d⟩))) := by
  obtain ⟨r, hr⟩ : ∃ r, rightT ⟨l, n, d⟩ = r := ⟨_, rfl⟩
  rw [hr]
  have HR := Lib.hid hr; clear hr
  by_cases h0 : n = 0
  · subst h0
    go_enter Try.func11, Try.ntmps11
    go_wp2
    go_ret
    refine ⟨?_, (Below.refl _ _).alloc (Nat.le_refl _) _⟩
    rw [← HR.out]
    simp [rightT, beq_dec]
  · have d0 : (n == 0) = false := by simpa using h0
    go_enter Try.func11, Try.ntmps11
    go_wp2
    all_goals go_ret
    all_goals (refine ⟨?_, (Below.refl _ _).alloc (Nat.le_refl _) _⟩; have hR := HR.out; simp [rightT] at hR; rw [← hR]; congr 2; simp [*, beq_dec])
    all_goals (try omega)

theorem size_any (l : Nat) (n d : Int) (w : World) : Calls Try.prog 22 #[.agg #[.int .u8 l, .int .i64 n, .int .i64 d]] w (Gives w (.int .i64 (max n 1))) := by
  go_enter Try.func22, Try.ntmps22
  go_wp2
  all_goals go_ret
  all_goals exact ⟨ret_int (by omega), (Below.refl _ _).alloc (Nat.le_refl _) _⟩

theorem farthest_any (n : Int) (h0 : 0 ≤ n) (h1 : n ≤ 9223372036854775807) (w : World) : Calls Try.prog 17 #[.int .i64 n] w fun e w' => e = .returned (.int .i64 (max (n - 32768) 0)) ∧ w = w' := by
  go_enter Try.func17, Try.ntmps17
  go_wp2
  all_goals go_ret
  all_goals exact ⟨ret_int (by omega), rfl⟩

/-- Why a token may not stand there. -/
theorem wrong_any (l : Nat) (n d : Int) (count : Nat) (hc : count ≤ 100000000) (most : Int) (h0 : 0 ≤ most) (h1 : most ≤ 16777216) (w : World) :
    Calls Try.prog 15 #[.agg #[.int .u8 l, .int .i64 n, .int .i64 d], .int .i64 count, .int .i64 most] w (Gives w (.int .i64 (wrongT ⟨l, n, d⟩ count most : Nat))) := by
  obtain ⟨r, hr⟩ : ∃ r, wrongT ⟨l, n, d⟩ count most = r := ⟨_, rfl⟩
  rw [hr]
  unfold wrongT at hr
  have C1 := Lib.hid (fun W => right_any l n d W)
  obtain ⟨B, hB⟩ : ∃ B, rightT ⟨l, n, d⟩ = B := ⟨_, rfl⟩
  rw [hB] at C1 hr
  simp only at hr
  cases B with
  | false =>
    rw [if_pos rfl] at hr
    subst hr
    go_enter Try.func15, Try.ntmps15
    go_wp2_with fail
    refine (C1.out _).mono ?_; rintro e w1 ⟨rfl, hb1⟩; have B1 := Lib.hid hb1; clear hb1
    go_wp2_with fail
    go_ret
    exact ⟨rfl, ((Below.refl _ _).alloc (Nat.le_refl _) _).trans (B1.out.mono (by simp))⟩
  | true =>
    rw [if_neg (by simp)] at hr
    by_cases hd : (count : Int) < d
    · rw [if_pos hd] at hr
      subst hr
      have dd : decide ((count : Int) < d) = true := decide_eq_true hd
      go_enter Try.func15, Try.ntmps15
      go_wp2_with fail
      refine (C1.out _).mono ?_; rintro e w1 ⟨rfl, hb1⟩; have B1 := Lib.hid hb1
      have k2 : w1.cell? ⟨w.heap.size, 2, none⟩ = some (.int .i64 d) := (hb1.cell (p := ⟨w.heap.size, 2, none⟩) (by simp)).trans ((Whole.new w 29 _).cell 2)
      clear hb1
      go_wp2_with fail
      go_ret
      exact ⟨rfl, ((Below.refl _ _).alloc (Nat.le_refl _) _).trans (B1.out.mono (by simp))⟩
    · rw [if_neg hd] at hr
      have dd : decide ((count : Int) < d) = false := decide_eq_false hd
      have C2 := Lib.hid (fun W => size_any l n d W)
      obtain ⟨m, hm⟩ : ∃ m, max n 1 = m := ⟨_, rfl⟩
      rw [hm] at C2 hr
      have HM := Lib.hid hm
      clear hm hd
      go_enter Try.func15, Try.ntmps15
      go_wp2_with fail
      refine (C1.out _).mono ?_; rintro e w1 ⟨rfl, hb1⟩; have B1 := Lib.hid hb1
      have k0 : w1.cell? ⟨w.heap.size, 0, none⟩ = some (.int .u8 l) := (hb1.cell (p := ⟨w.heap.size, 0, none⟩) (by simp)).trans ((Whole.new w 29 _).cell 0)
      have k1 : w1.cell? ⟨w.heap.size, 1, none⟩ = some (.int .i64 n) := (hb1.cell (p := ⟨w.heap.size, 1, none⟩) (by simp)).trans ((Whole.new w 29 _).cell 1)
      have k2 : w1.cell? ⟨w.heap.size, 2, none⟩ = some (.int .i64 d) := (hb1.cell (p := ⟨w.heap.size, 2, none⟩) (by simp)).trans ((Whole.new w 29 _).cell 2)
      clear hb1
      by_cases hlg : most - count < m
      · rw [if_pos hlg] at hr
        subst hr
        have d3 : decide (most - count < m) = true := decide_eq_true hlg
        go_wp2_with fail
        refine (C2.out _).mono ?_; rintro e w2 ⟨rfl, hb2⟩; have B2 := Lib.hid hb2; clear hb2
        go_wp2_with fail
        go_ret
        exact ⟨rfl, ((Below.refl _ _).alloc (Nat.le_refl _) _).trans ((B1.out.trans (B2.out.mono B1.out.size)).mono (by simp))⟩
      · rw [if_neg hlg] at hr
        subst hr
        have d3 : decide (most - count < m) = false := decide_eq_false hlg
        go_wp2_with fail
        refine (C2.out _).mono ?_; rintro e w2 ⟨rfl, hb2⟩; have B2 := Lib.hid hb2; clear hb2
        go_wp2_with fail
        go_ret
        exact ⟨rfl, ((Below.refl _ _).alloc (Nat.le_refl _) _).trans ((B1.out.trans (B2.out.mono B1.out.size)).mono (by simp))⟩

end Go.Proofs.Ythlgceeldnhhbaa
