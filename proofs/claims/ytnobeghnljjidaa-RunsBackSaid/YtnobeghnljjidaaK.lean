/-
  The calls whose answers the document fixes: fixed answers true, and changes nothing that was there. Conditions: none.
-/
import Derived.Test.YtnobeghnljjidaaJ
namespace Go.Proofs.Ytnobeghnljjidaa
open Go.RowKit
set_option maxRecDepth 100000

theorem exp1 : expR [⟨17, 1⟩] [] = (0, [0, 0, 0, 0]) := by decide
theorem exp2 : expR [⟨16, 0⟩] [] = (2, []) := by decide
theorem bey0 : beyond [0, 0, 0, 0] = false := by decide

theorem run1 (w : World) : Calls Try.prog 10 #[.slice (some ⟨w.heap.size, 0, none⟩) 1 1] (w.alloc (.cells #[.int .i64 17, .int .i64 1] 26)) fun e w' =>
    ∃ A c, e = .returned (.tuple #[.slice A 4 c, .int .i64 0]) ∧ Seen w' w'.heap.size 1 A 4 c (iv [0, 0, 0, 0]) ∧ Below w.heap.size w w' := by
  have hs := seen_rn w 17 1
  refine (expand_any (some ⟨w.heap.size, 0, none⟩) 1 1 (w.heap.size + 1) [⟨17, 1⟩] (by omega) _ hs (by simp)).mono ?_
  have hB : Below w.heap.size w (w.alloc (.cells #[.int .i64 17, .int .i64 1] 26)) := (Below.refl _ _).alloc (Nat.le_refl _) _
  rintro e w' (⟨o, v, h1, h2, h3, _, h4⟩ | ⟨er, h0, _, h1, _⟩)
  · rw [exp1] at h1
    injection h1 with _ h1
    subst h1
    obtain ⟨A, c, rfl, _, hs2⟩ := own_seen h3
    exact ⟨A, c, h2, hs2, hB.trans (h4.mono (by simp))⟩
  · rw [exp1] at h1
    injection h1 with h1 _
    exact absurd h1.symm h0

theorem run2 (w : World) : Calls Try.prog 10 #[.slice (some ⟨w.heap.size, 0, none⟩) 1 1] (w.alloc (.cells #[.int .i64 16, .int .i64 0] 26)) fun e w' =>
    e = .returned (.tuple #[.slice none 0 0, .int .i64 2]) ∧ Below w.heap.size w w' := by
  have hs := seen_rn w 16 0
  refine (expand_any (some ⟨w.heap.size, 0, none⟩) 1 1 (w.heap.size + 1) [⟨16, 0⟩] (by omega) _ hs (by simp)).mono ?_
  have hB : Below w.heap.size w (w.alloc (.cells #[.int .i64 16, .int .i64 0] 26)) := (Below.refl _ _).alloc (Nat.le_refl _) _
  rintro e w' (⟨o, v, h1, _⟩ | ⟨er, h0, _, h1, h2, h4⟩)
  · rw [exp2] at h1
    injection h1 with h1 _
    exact absurd h1 (by omega)
  · rw [exp2] at h1
    injection h1 with h1 _
    subst h1
    exact ⟨h2, hB.trans (h4.mono (by simp))⟩

theorem run3 (w : World) : Calls Try.prog 13 #[.slice (some ⟨w.heap.size, 0, none⟩) 4 4] (w.alloc (.cells #[.int .i64 0, .int .i64 0, .int .i64 0, .int .i64 0] 3)) fun e w' =>
    ∃ A m c, e = .returned (.tuple #[.slice A m c, .int .i64 0]) ∧ 1 ≤ m ∧ m ≤ 4 ∧ Below w.heap.size w w' := by
  have hs := seen_cells w 3 (0, 0) 1 4 (iv [0, 0, 0, 0]) rfl
  refine (of_any (some ⟨w.heap.size, 0, none⟩) 4 4 (w.heap.size + 1) [0, 0, 0, 0] rfl (by omega) _ hs (by simp)).mono ?_
  have hB : Below w.heap.size w (w.alloc (.cells #[.int .i64 0, .int .i64 0, .int .i64 0, .int .i64 0] 3)) := (Below.refl _ _).alloc (Nat.le_refl _) _
  rintro e w' (⟨h, _⟩ | ⟨_, h, _⟩ | ⟨_, _, rs, v, h1, h2, h3, h4, h5⟩)
  · rw [bey0] at h; cases h
  · simp at h
  · obtain ⟨A, c, rfl, _⟩ := own_form h2
    refine ⟨A, rs.length, c, h1, ?_, h4, hB.trans (h5.mono (by simp))⟩
    cases rs with
    | nil => injection h3 with _ h3; cases h3
    | cons => simp

set_option maxHeartbeats 1000000 in
theorem fixed_any (w : World) : Calls Try.prog 5 #[] w (Gives w (.bool true)) := by
  have C1 := Lib.hid run1
  have C2 := Lib.hid run2
  have C3 := Lib.hid run3
  have C4 := Lib.hid (fun W => (show Calls Try.prog 6 #[.int .i64 18] W fun e w' => e = .returned (.int .i64 7) ∧ W = w' from bits_any 18 W))
  have C5 := Lib.hid (fun W => (show Calls Try.prog 8 #[.agg #[.int .i64 3, .int .i64 1]] W (Gives W (.bool false)) from right_any 3 1 W))
  go_enter Try.func5, Try.ntmps5
  go_wp2_with fail
  refine (C1.out _).mono ?_; rintro e w1 ⟨A1, c1, rfl, hs1, hb1⟩
  have B1 := Lib.hid hb1; have S1 := Lib.hid hs1
  clear hb1 hs1
  go_wp2_with fail
  refine (C2.out _).mono ?_; rintro e w2 ⟨rfl, hb2⟩
  have B2 := Lib.hid (B1.out.trans (hb2.mono B1.out.size))
  have S2 := Lib.hid (S1.out.below hb2)
  have hsz2 := hb2.size
  clear hb2
  go_wp2_with fail
  refine (C3.out _).mono ?_; rintro e w3 ⟨A3, m3, c3, rfl, hm1, hm4, hb3⟩
  have hs3 := (S2.out.only (Only.of_below hb3 Nob) hsz2 (fun _ _ h => h))
  have B3 := Lib.hid (B2.out.trans (hb3.mono B2.out.size))
  clear hb3
  obtain ⟨b, o, rfl, _, hc⟩ := hs3.int (l := [0, 0, 0, 0]) rfl (k := 0) (by omega)
  simp only [Nat.add_zero] at hc
  have hc' : w3.cell? ⟨b, o, none⟩ = some (.int .i64 0) := hc
  have dm : decide ((1 : Int) ≤ m3) = true := decide_eq_true (by omega)
  clear hc hs3
  go_wp2_with fail
  refine (C4.out _).mono ?_; rintro e w4 ⟨rfl, rfl⟩
  go_wp2_with fail
  refine (C5.out _).mono ?_; rintro e w5 ⟨rfl, hb5⟩
  have B5 := Lib.hid (B3.out.trans (hb5.mono B3.out.size))
  clear hb5
  go_wp2_with fail
  go_ret
  exact ⟨rfl, B5.out⟩
end Go.Proofs.Ytnobeghnljjidaa
