/-
  The law's own fixed calls. Conditions: none.
-/
import Derived.Test.YtibkdmliolebgaaDoorTL
namespace Go.Proofs.YtibkdmliolebgaaDoor
open Go Go.RowKit
set_option maxRecDepth 100000

set_option maxHeartbeats 8000000 in
theorem fixed_any (w : World) : Calls Tryd.prog 6 #[] w (Gives w (.bool true)) := by
  have D1 := Lib.hid (fun W => prooms_any [40, 73, 74, 91, 68, 41, 86] (by decide) W)
  rw [lit_rooms, show tx [40, 73, 74, 91, 68, 41, 86] = ⟨#[40, 73, 74, 91, 68, 41, 86]⟩ from rfl] at D1
  have D2 := Lib.hid (fun W => pparams_any [40, 76, 97, 47, 98, 59, 91, 91, 73, 41, 74] (by decide) W)
  rw [lit_params, show tx [40, 76, 97, 47, 98, 59, 91, 91, 73, 41, 74] = ⟨#[40, 76, 97, 47, 98, 59, 91, 91, 73, 41, 74]⟩ from rfl] at D2
  have D3 := Lib.hid (fun W => pclass_any [97, 47, 98] (by decide) W)
  rw [class_ab, show tx [97, 47, 98] = ⟨#[97, 47, 98]⟩ from rfl] at D3
  have D4 := Lib.hid (fun W => pclass_any [97, 47, 47, 98] (by decide) W)
  rw [class_aab, show tx [97, 47, 47, 98] = ⟨#[97, 47, 47, 98]⟩ from rfl] at D4
  have D5 := Lib.hid (fun W => pnamed_any [91, 73] (by decide) W)
  rw [lit_named, show tx [91, 73] = ⟨#[91, 73]⟩ from rfl] at D5
  have D6 := Lib.hid (fun W => pmethod_any [60, 105, 110, 105, 116, 62] (by decide) W)
  rw [lit_init, show tx [60, 105, 110, 105, 116, 62] = ⟨#[60, 105, 110, 105, 116, 62]⟩ from rfl] at D6
  have D7 := Lib.hid (fun W => pmethod_any [60, 120, 62] (by decide) W)
  rw [lit_x, show tx [60, 120, 62] = ⟨#[60, 120, 62]⟩ from rfl] at D7
  have D8 := Lib.hid (fun W => pdims_any [91, 91, 73] (by decide) W)
  rw [show dimsM [91, 91, 73] = 2 from rfl, show tx [91, 91, 73] = ⟨#[91, 91, 73]⟩ from rfl] at D8
  have g1 := tl_lit [76, 97, 47, 98, 59] [76, 97, 47, 98, 59]
  rw [decide_eq_true rfl] at g1
  have g2 := tl_lit [74] [74]
  rw [decide_eq_true rfl] at g2
  go_enter Tryd.func6, Tryd.ntmps6
  go_wp2_with (first
    | (go_at_call 11; have _ := N3; refine (D4.out _).mono ?_; rintro e w4 ⟨rfl, b4⟩)
    | (go_at_call 9; have _ := N6; refine (D7.out _).mono ?_; rintro e w7 ⟨rfl, b7⟩)
    | (go_at_call 23; refine (D1.out _).mono ?_; rintro e w1 ⟨rfl, b1⟩)
    | (go_at_call 21; refine (D2.out _).mono ?_; rintro e w2 ⟨v, rfl, b2, ho⟩; obtain ⟨A1, c1, rfl, _⟩ := own_form ho; obtain ⟨b5, o5, u5, rfl, _, hu5, hc5⟩ := (Seen.of_own ho).at (k := 0) (by decide); obtain rfl : u5 = .string (tx [76, 97, 47, 98, 59]) := (Option.some.inj hu5).symm; rw [Nat.add_zero] at hc5; clear ho hu5)
    | (go_at_call 11; refine (D3.out _).mono ?_; rintro e w3 ⟨rfl, b3⟩; have N3 := Lib.hid b3)
    | (go_at_call 13; refine (D5.out _).mono ?_; rintro e w5 ⟨rfl, b5⟩)
    | (go_at_call 9; refine (D6.out _).mono ?_; rintro e w6 ⟨rfl, b6⟩; have N6 := Lib.hid b6)
    | (go_at_call 19; refine (D8.out _).mono ?_; rintro e w8 ⟨rfl, rfl⟩))
  go_ret
  have B2 := b1.trans (b2.mono b1.size)
  have B3 := B2.trans (b3.mono B2.size)
  have B4 := B3.trans (b4.mono B3.size)
  have B5 := B4.trans (b5.mono B4.size)
  have B6 := B5.trans (b6.mono B5.size)
  exact ⟨rfl, B6.trans (b7.mono B6.size)⟩
end Go.Proofs.YtibkdmliolebgaaDoor
