/-
  The law of names' walk. Conditions: none.
-/
import Derived.Test.YtibkdmliolebgaaDoorLA
namespace Go.Proofs.YtibkdmliolebgaaDoor
open Go Go.RowKit
set_option maxRecDepth 100000

theorem beq_bool (b : Bool) : (b == b) = true := by cases b <;> rfl
set_option maxHeartbeats 8000000 in
theorem names_any (l : List UInt8) (w : World) : Calls Tryd.prog 3 #[.string (tx l)] w (Gives w (.bool true)) := by
  have F := Lib.hid (fun W => fixed_any W)
  obtain ⟨n, hn⟩ : ∃ n, l.length = n := ⟨_, rfl⟩
  have hts : (tx l).size = n := by rw [tx_size, hn]
  by_cases h600 : 600 < n
  · have d1 : decide ((600 : Int) < (n : Int)) = true := by rw [decide_eq_true_iff]; omega
    clear hn
    generalize tx l = s at *
    go_enter Tryd.func3, Tryd.ntmps3
    go_wp2_with (go_at_call 6; refine (F.out _).mono ?_; rintro e w1 ⟨rfl, b1⟩)
    go_ret
    exact ⟨rfl, b1⟩
  · have d1 : decide ((600 : Int) < (n : Int)) = false := by rw [decide_eq_false_iff_not]; omega
    have hs : l.length ≤ 100000 := by omega
    have P1 := Lib.hid (fun W => pmember_any l hs W)
    have Q1 := Lib.hid (fun W => member_any l hs W)
    have P2 := Lib.hid (fun W => pmethod_any l hs W)
    have Q2 := Lib.hid (fun W => method_any l hs W)
    have P3 := Lib.hid (fun W => pclass_any l hs W)
    have Q3 := Lib.hid (fun W => class_any l hs W)
    have P4 := Lib.hid (fun W => pnamed_any l hs W)
    have Q4 := Lib.hid (fun W => named_any l hs W)
    have P5 := Lib.hid (fun W => pfield_any l hs W)
    have Q5 := Lib.hid (fun W => field_any l hs W)
    have P6 := Lib.hid (fun W => proom_any l hs W)
    have Q6 := Lib.hid (fun W => room_any l hs W)
    have P7 := Lib.hid (fun W => pdims_any l hs W)
    have Q7 := Lib.hid (fun W => dims_any l hs W)
    generalize memberM l = r1 at *
    generalize methodM l = r2 at *
    generalize classM l = r3 at *
    generalize namedM l = r4 at *
    generalize fieldM l = r5 at *
    generalize roomM l = r6 at *
    generalize dimsM l = r7 at *
    have e1 := beq_bool r1
    have e2 := beq_bool r2
    have e3 := beq_bool r3
    have e4 := beq_bool r4
    have e5 := beq_bool r5
    clear hn hs
    generalize tx l = s at *
    go_enter Tryd.func3, Tryd.ntmps3
    go_wp2_with (first
      | (go_at_call 6; refine (F.out _).mono ?_; rintro e w1 ⟨rfl, b1⟩)
      | (go_at_call 7; refine (P1.out _).mono ?_; rintro e w2 ⟨rfl, b2⟩)
      | (go_at_call 8; refine (Q1.out _).mono ?_; rintro e w3 ⟨rfl, b3⟩)
      | (go_at_call 9; refine (P2.out _).mono ?_; rintro e w4 ⟨rfl, b4⟩)
      | (go_at_call 10; refine (Q2.out _).mono ?_; rintro e w5 ⟨rfl, b5⟩)
      | (go_at_call 11; refine (P3.out _).mono ?_; rintro e w6 ⟨rfl, b6⟩)
      | (go_at_call 12; refine (Q3.out _).mono ?_; rintro e w7 ⟨rfl, b7⟩)
      | (go_at_call 13; refine (P4.out _).mono ?_; rintro e w8 ⟨rfl, b8⟩)
      | (go_at_call 14; refine (Q4.out _).mono ?_; rintro e w9 ⟨rfl, b9⟩)
      | (go_at_call 15; refine (P5.out _).mono ?_; rintro e w10 ⟨rfl, b10⟩)
      | (go_at_call 16; refine (Q5.out _).mono ?_; rintro e w11 ⟨rfl, b11⟩)
      | (go_at_call 17; refine (P6.out _).mono ?_; rintro e w12 ⟨rfl, b12⟩)
      | (go_at_call 18; refine (Q6.out _).mono ?_; rintro e w13 ⟨rfl, b13⟩)
      | (go_at_call 19; refine (P7.out _).mono ?_; rintro e w14 ⟨rfl, rfl⟩)
      | (go_at_call 20; refine (Q7.out _).mono ?_; rintro e w15 ⟨rfl, rfl⟩))
    go_ret
    have B2 := b1.trans (b2.mono b1.size)
    have B3 := B2.trans (b3.mono B2.size)
    have B4 := B3.trans (b4.mono B3.size)
    have B5 := B4.trans (b5.mono B4.size)
    have B6 := B5.trans (b6.mono B5.size)
    have B7 := B6.trans (b7.mono B6.size)
    have B8 := B7.trans (b8.mono B7.size)
    have B9 := B8.trans (b9.mono B8.size)
    have B10 := B9.trans (b10.mono B9.size)
    have B11 := B10.trans (b11.mono B10.size)
    have B12 := B11.trans (b12.mono B11.size)
    exact ⟨by simp, B12.trans (b13.mono B12.size)⟩
end Go.Proofs.YtibkdmliolebgaaDoor
