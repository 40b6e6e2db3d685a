/-
  The first check of every statement on layer 2, called fixed, answers true. Conditions: none.
-/
import Derived.Test.YtgjpfmijijbjbaaC4
namespace Go.Proofs.Ytgjpfmijijbjbaa
open Go.RowKit

theorem seen_lit (w : World) (t : TypeId) (xs : List Value) : Seen (w.alloc (.cells xs.toArray t)) (w.heap.size + 1) 1 (some ⟨w.heap.size, 0, none⟩) xs.length xs.length xs := by
  refine ⟨by simp, Nat.le_refl _, .inr ⟨_, rfl, fun _ => ⟨rfl, by simp, fun j x hx => ?_⟩⟩⟩
  rw [Whole.cell (Whole.new w t xs.toArray)]
  simpa using hx

theorem seen_block {w : World} {g : Nat} {bs : List Nat} (h : Whole w g 5 (bv bs).toArray) : Seen w w.heap.size 1 (some ⟨g, 0, none⟩) bs.length bs.length (bv bs) := by
  refine ⟨by simp, Nat.le_refl _, .inr ⟨_, rfl, fun _ => ⟨rfl, h.lt, fun j x hx => ?_⟩⟩⟩
  rw [show (0 + j) = j by omega, h.cell]
  simpa using hx

set_option maxHeartbeats 1000000 in
theorem fixed2_yes (w : World) : Calls Try.prog 28 #[] w fun e w' => e = .returned (.bool true) ∧ Below w.heap.size w w' := by
  go_enter Try.func28, Try.ntmps28
  go_wp2_with fail
  refine (newC_any _ _ _ [1, 2, 1, 2, 9] _ (seen_lit w 5 (bv [1, 2, 1, 2, 9])) (by simp) (by simp)).mono ?_; rintro e w1 ⟨g, sv, rfl, hC1, hb1⟩
  have HC1 := Lib.hid hC1; clear hC1
  have HB1 : Hid (Below w.heap.size w w1) := ((Below.refl _ _).alloc (Nat.le_refl _) _).trans (hb1.mono (by simp))
  have hg : w.heap.size < g := by have h1 := HC1.out.1; simp at h1; omega
  clear hb1
  go_wp2_with fail
  refine (bigC_any _ g sv [1, 2, 1, 2, 9] 0 0 2 _ HC1.out (by simp) (by simp) (by decide)).mono ?_; rintro e w2 ⟨rfl, hC2, hO2⟩
  rw [show nxt [1, 2, 1, 2, 9] 0 0 2 (decide (Wide 2)) = ([1, 2], 2, 0) by decide] at hC2 ⊢
  rw [show big_ ([1, 2], 2, (0 : Int)).1 = 258 by decide]
  have HC2 := Lib.hid hC2; clear hC2
  have HB2 : Hid (Below w.heap.size w w2) := HB1.out.trans (hO2.below HB1.out.size (fun k hk => by omega))
  clear hO2
  go_wp2_with fail
  refine (littleC_any _ g sv [1, 2, 1, 2, 9] 2 0 2 _ HC2.out (by simp) (by simp) (by decide)).mono ?_; rintro e w3 ⟨rfl, hC3, hO3⟩
  rw [show nxt [1, 2, 1, 2, 9] 2 0 2 (decide (Wide 2)) = ([1, 2], 4, 0) by decide] at hC3 ⊢
  rw [show len_ ([1, 2], 4, (0 : Int)).1 = 513 by decide]
  have HC3 := Lib.hid hC3; clear hC3
  have HB3 : Hid (Below w.heap.size w w3) := HB2.out.trans (hO3.below HB2.out.size (fun k hk => by omega))
  clear hO3
  go_wp2_with fail
  refine (endC_any _ g sv [1, 2, 1, 2, 9] 4 0 _ HC3.out (by simp) (by simp)).mono ?_; rintro e w4 ⟨rfl, hC4, hO4⟩
  rw [show endErr [1, 2, 1, 2, 9] 4 0 = 2 by decide] at hC4 ⊢
  have HC4 := Lib.hid hC4; clear hC4
  have HB4 : Hid (Below w.heap.size w w4) := HB3.out.trans (hO4.below HB3.out.size (fun k hk => by omega))
  clear hO4
  go_wp2_with fail
  refine (big_go none 0 0 [] _ (seen_nil _ _) (Nat.zero_le _) (by simp) 258 2 (by omega) 2 (.inl ⟨.inr (.inl rfl), rfl⟩)).mono ?_; rintro e w5 ⟨g5, rfl, hW5, hg5, hb5⟩
  rw [show ([] ++ (leb 258 2).reverse) = [1, 2] by decide] at hW5 ⊢
  have cv5 := conv_seen (seen_block hW5)
  rw [show strOf [1, 2] = ⟨#[1, 2]⟩ from rfl] at cv5
  rw [show ([1, 2] : List Nat).length = 2 from rfl] at cv5 ⊢
  have HB5 : Hid (Below w.heap.size w w5) := HB4.out.trans (hb5.mono HB4.out.size)
  have HC5 := Lib.hid (HC4.out.only (Only.of_below hb5 Nob) (fun _ _ h => h))
  clear hW5 hb5
  go_wp2_with fail
  refine (little_go _ _ _ [7] _ (seen_lit w5 5 (bv [7])) (by simp) (by simp) 258 2 (by omega) 2 (.inl ⟨.inr (.inl rfl), rfl⟩)).mono ?_; rintro e w6 ⟨g6, rfl, hW6, hg6, hb6⟩
  rw [show ([7] ++ leb 258 2) = [7, 2, 1] by decide] at hW6 ⊢
  have cv6 := conv_seen (seen_block hW6)
  rw [show strOf [7, 2, 1] = ⟨#[7, 2, 1]⟩ from rfl] at cv6
  rw [show ([7, 2, 1] : List Nat).length = 3 from rfl] at cv6 ⊢
  have hsz5 := HB5.out.size
  have HB6 : Hid (Below w.heap.size w w6) := (HB5.out.alloc hsz5 _).trans (hb6.mono (by simp; omega))
  have HC6 := Lib.hid ((HC5.out.only ((Only.refl Nob _).alloc _) (fun _ _ h => h)).only (Only.of_below hb6 Nob) (fun _ _ h => h))
  clear hW6 hb6
  go_wp2_with fail
  refine (bigC_any _ g sv [1, 2, 1, 2, 9] 4 2 1 _ HC6.out (by simp) (by simp) (by decide)).mono ?_; rintro e w7 ⟨rfl, hC7, hO7⟩
  rw [show nxt [1, 2, 1, 2, 9] 4 2 1 (decide (Wide 1)) = ([], 4, 2) by decide] at hC7 ⊢
  rw [show big_ (([] : List Nat), 4, (2 : Int)).1 = 0 by decide]
  have HC7 := Lib.hid hC7; clear hC7
  have HB7 : Hid (Below w.heap.size w w7) := HB6.out.trans (hO7.below HB6.out.size (fun k hk => by omega))
  clear hO7
  go_wp2_with fail
  refine (leftC_any _ g sv [1, 2, 1, 2, 9] 4 2 _ HC7.out (by simp) (by simp)).mono ?_; rintro e w8 ⟨rfl, rfl⟩
  rw [show (([1, 2, 1, 2, 9] : List Nat).length - 4) = 1 from rfl]
  go_wp2_with fail
  go_ret
  exact ⟨rfl, HB7.out.drew⟩
end Go.Proofs.Ytgjpfmijijbjbaa
