/-
  The calls whose answers the document fixes. Conditions: unicode/utf8's tables as they are laid, and the library's greatest length as some number.
-/
import Derived.Test.YtdfliogomkpceaaDoorWG
import Derived.Test.YtdfliogomkpceaaDoorWI
import Derived.Test.YtdfliogomkpceaaDoorWK
namespace Go.Proofs.YtdfliogomkpceaaDoor
open Go Go.RowKit
set_option maxRecDepth 100000

/-- What the program's own library wants of a world. -/
structure Fit (m : Int) (w : World) : Prop where
  tabs : Lib.Utf8Tabs 0 1 w
  most : w.cell? ⟨2, 0, none⟩ = some (.int .i64 m)
theorem Fit.below {m : Int} {w w' : World} (h : Fit m w) (hb : Below w.heap.size w w') : Fit m w' :=
  ⟨Utf8Tabs_below h.tabs hb, (hb.cell (p := ⟨2, 0, none⟩) (World.block_lt_of_cell? w _ h.most)).trans h.most⟩
theorem units_lits (u : List Nat) (s : List UInt8) (h : uBs u = s) (hu : (u.all fun x => decide (x < 65536)) = true) : unitsM s = some u :=
  (units_iff s u).2 ⟨h, fun x hx => of_decide_eq_true (List.all_eq_true.1 hu x hx)⟩
theorem u1 : unitsM [237, 160, 189, 237, 184, 128] = some [55357, 56832] := units_lits _ _ (by decide) (by decide)
theorem u2 : unitsM [237, 160, 189] = some [55357] := units_lits _ _ (by decide) (by decide)
theorem u3 : unitsM [97] = some [97] := units_lits _ _ (by decide) (by decide)
theorem u4 : unitsM [97, 98] = some [97, 98] := units_lits _ _ (by decide) (by decide)
theorem u5 : unitsM [0] = none := dU_none (v := 0) (by decide) (by decide)
theorem f1 : decodeM [237, 160, 189, 237, 184, 128] = some [240, 159, 152, 128] := by unfold decodeM; rw [u1]; kernel_rfl
theorem f2 : decodeM [237, 160, 189] = none := by unfold decodeM; rw [u2]; kernel_rfl
theorem f3 : lessM [97] [97, 98] = true := by unfold lessM; rw [u3, u4]; rfl
theorem sg_one {p : List Nat} {c : UInt8} {r : List UInt8} {x m : Nat} (hd : Lib.decodeL (c :: r) = (x, m)) (hx : x ≠ 65533) : sgM p (c :: r) = sgM (p ++ [x]) (r.drop (m - 1)) := by
  rw [sgM, if_neg (fun h => hx (by have := h.1; rw [hd] at this; exact this)), hd]
theorem d1 : Lib.decodeL [97, 0, 195, 169] = (97, 1) := by rw [Lib.decodeL_N]; kernel_rfl
theorem d2 : Lib.decodeL [0, 195, 169] = (0, 1) := by rw [Lib.decodeL_N]; kernel_rfl
theorem d3 : Lib.decodeL [195, 169] = (233, 2) := by rw [Lib.decodeL_N]; kernel_rfl
theorem f4 : encodeM [97, 0, 195, 169] = some [97, 192, 128, 195, 169] := by
  have e : sgM [] [97, 0, 195, 169] = some [97, 0, 233] := by
    rw [sg_one d1 (by decide)]
    show sgM [97] [0, 195, 169] = _
    rw [sg_one d2 (by decide)]
    show sgM [97, 0] [195, 169] = _
    rw [sg_one d3 (by decide)]
    show sgM [97, 0, 233] [] = _
    rw [sgM]
  unfold encodeM
  rw [e]; decide

set_option maxHeartbeats 8000000 in
theorem fixed_any (m : Int) (w : World) (h : Fit m w) : Calls Tryd.prog 6 #[] w (Gives w (.bool true)) := by
  obtain ⟨T1, hT1⟩ : ∃ T, tx [97, 192, 128, 195, 169] = T := ⟨_, rfl⟩
  obtain ⟨T2, hT2⟩ : ∃ T, tx [240, 159, 152, 128] = T := ⟨_, rfl⟩
  obtain ⟨T0, hT0⟩ : ∃ T, tx [] = T := ⟨_, rfl⟩
  have t1 : (T1.toList == [97, 192, 128, 195, 169]) = true := by rw [← hT1, ByteArray.toList_eq, tx_list]; decide
  have t2 : (T2.toList == [240, 159, 152, 128]) = true := by rw [← hT2, ByteArray.toList_eq, tx_list]; decide
  have C1 : Hid (∀ W, Fit m W → Calls Tryd.prog 10 #[.string ⟨#[97, 0, 195, 169]⟩] W fun e w' => e = .returned (.tuple #[.string T1, .bool true]) ∧ Below W.heap.size W w') := Lib.hid fun W hW => by
    have := pEncode_any [97, 0, 195, 169] 4 rfl (by decide) W hW.tabs
    rw [f4] at this
    unfold GivesText at this
    rw [show (some [97, 192, 128, 195, 169] : Option (List UInt8)).getD [] = [97, 192, 128, 195, 169] from rfl, hT1] at this
    exact this
  have C2 : Hid (∀ W, Calls Tryd.prog 12 #[.string ⟨#[237, 160, 189, 237, 184, 128]⟩] W fun e w' => e = .returned (.tuple #[.string T2, .bool true]) ∧ Below W.heap.size W w') := Lib.hid fun W => by
    have := pDecode_any [237, 160, 189, 237, 184, 128] (by decide) W
    rw [f1] at this
    unfold GivesText at this
    rw [show (some [240, 159, 152, 128] : Option (List UInt8)).getD [] = [240, 159, 152, 128] from rfl, hT2] at this
    exact this
  have C3 : Hid (∀ W, Calls Tryd.prog 12 #[.string ⟨#[237, 160, 189]⟩] W fun e w' => e = .returned (.tuple #[.string T0, .bool false]) ∧ Below W.heap.size W w') := Lib.hid fun W => by
    have := pDecode_any [237, 160, 189] (by decide) W
    rw [f2] at this
    unfold GivesText at this
    rw [show (none : Option (List UInt8)).getD [] = [] from rfl, hT0] at this
    exact this
  have C4 : Hid (∀ W, Calls Tryd.prog 9 #[.string ⟨#[237, 160, 189]⟩] W (Rets W (.bool true))) := Lib.hid fun W => by
    have := right_any [237, 160, 189] 3 rfl (by decide) W
    rw [u2] at this
    exact this
  have C5 : Hid (∀ W, Calls Tryd.prog 9 #[.string ⟨#[0]⟩] W (Rets W (.bool false))) := Lib.hid fun W => by
    have := right_any [0] 1 rfl (by decide) W
    rw [u5] at this
    exact this
  have C6 : Hid (∀ W, Fit m W → Calls Tryd.prog 16 #[.string ⟨#[97]⟩, .string ⟨#[97, 98]⟩] W fun e w' => e = .returned (.bool true) ∧ Below W.heap.size W w') := Lib.hid fun W hW => by
    have := pLess_any [97] [97, 98] (by decide) (by decide) m W hW.most
    rw [f3] at this
    exact this
  have HW := Lib.hid h
  clear hT0 hT1 hT2 h
  go_enter Tryd.func6, Tryd.ntmps6
  go_wp2_with fail
  refine (C1.out _ HW.out).mono ?_
  rintro e w1 ⟨rfl, b1⟩
  have B1 := Lib.hid b1
  clear b1
  go_wp2_with fail
  refine (C2.out _).mono ?_
  rintro e w2 ⟨rfl, b2⟩
  have B2 := Lib.hid (B1.out.trans (b2.mono B1.out.size))
  clear b2
  go_wp2_with fail
  refine (C3.out _).mono ?_
  rintro e w3 ⟨rfl, b3⟩
  have B3 := Lib.hid (B2.out.trans (b3.mono B2.out.size))
  clear b3
  go_wp2_with fail
  refine (C4.out _).mono ?_
  rintro e w4 ⟨rfl, rfl⟩
  go_wp2_with fail
  refine (C5.out _).mono ?_
  rintro e w4 ⟨rfl, rfl⟩
  go_wp2_with fail
  refine (C6.out _ (HW.out.below B3.out)).mono ?_
  rintro e w4 ⟨rfl, b4⟩
  go_wp2_with fail
  go_ret
  exact ⟨rfl, B3.out.trans (b4.mono B3.out.size)⟩
end Go.Proofs.YtdfliogomkpceaaDoor
