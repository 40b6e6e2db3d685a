/-
  The first check of every statement on layer 11, called fixed, answers true. Conditions: the table of powers of ten is as the library lays it.
-/
import Derived.Test.YtdoclbgmbneggaaDoorO
namespace Go.Proofs.YtdoclbgmbneggaaDoor
open Go.RowKit
set_option maxRecDepth 100000

def txt1 : ByteArray := ⟨#[49, 57, 56, 48, 45, 48, 49, 45, 48, 49, 32, 48, 48, 58, 48, 48, 58, 48, 48]⟩
def txt2 : ByteArray := ⟨#[49, 57, 57, 54, 45, 48, 50, 45, 50, 57, 32, 50, 51, 58, 53, 57, 58, 53, 56]⟩
theorem right1 : rightM 33 0 = true := by unfold rightM yr mo da ho mi se; decide
theorem right2 : rightM 8285 49021 = true := by unfold rightM yr mo da ho mi se; decide
theorem pr1 : pr 33 0 = txt1 := by
  apply ba_ext
  rw [pr_data]
  unfold yr mo da ho mi se
  rfl
theorem pr2 : pr 8285 49021 = txt2 := by
  apply ba_ext
  rw [pr_data]
  unfold yr mo da ho mi se
  rfl

set_option maxHeartbeats 1000000 in
theorem fixed_yes (w : World) (ht : Tab w) : Calls Tryd.prog 6 #[] w (Gives w (.bool true)) := by
  have J := Lib.hid (join_any 1980 1 1 0 0 0 w)
  rw [show jo 1980 1 1 0 0 0 = (33, 0, 0) by decide] at J
  have PR := Lib.hid (fun W hW => print_any 33 0 (by omega) (by omega) right1 W hW)
  rw [pr1] at PR
  have PA := Lib.hid (fun W hW => parse_any txt2 W hW)
  rw [show paM txt2 = (8285, 49021, 0) by rw [← pr2]; exact paM_pr _ _ (by omega) (by omega) right2] at PA
  have RI := Lib.hid (fun W => right_any 8285 49021 (by omega) (by omega) W)
  rw [right2] at RI
  have DA := Lib.hid (fun W => days_any 2100 2 W)
  rw [show daysM 2100 2 = 28 by decide] at DA
  simp only [joV, mom] at J PR PA
  simp only [txt1] at PR
  simp only [txt2] at PA
  have HT := Lib.hid ht
  clear ht
  go_enter Tryd.func6, Tryd.ntmps6
  go_wp2_with fail
  refine (J.out).mono ?_; rintro e w1 ⟨rfl, b1⟩
  have P1 := Lib.hid (Whole.new w1 24 (mom 33 0))
  have B1 := Lib.hid (b1.alloc b1.size (.cells (mom 33 0) 24))
  simp only [mom] at P1 B1
  clear b1 J
  go_upto_region 2 with fail
  generalize w1.alloc _ = w2 at P1 B1 ⊢
  obtain ⟨g1, hg1⟩ : ∃ g, w1.heap.size = g := ⟨_, rfl⟩
  rw [hg1] at P1 ⊢
  clear hg1
  go_wp2_with (refine wpList_load_row rfl 24 (.tmp 1) rfl g1 rfl 24 (mom 33 0) (0, 0) _ P1.out Tryd.underlying24 rfl (mom_size 33 0) ?_)
  refine (PR.out w2 (HT.out.bel B1.out)).mono ?_; rintro e w3 ⟨rfl, b3⟩
  have B3 := Lib.hid (bel_after B1.out (Nat.le_refl _) b3)
  have P3 := Lib.hid (P1.out.bel b3)
  clear b3 P1 B1
  go_wp2_with fail
  refine (PA.out w3 (HT.out.bel B3.out)).mono ?_; rintro e w4 ⟨rfl, b4⟩
  have B4 := Lib.hid (bel_after B3.out (Nat.le_refl _) b4)
  have P4 := Lib.hid (P3.out.bel b4)
  clear b4 P3 B3
  have Q5 := Lib.hid (Whole.new w4 24 (mom 8285 49021))
  have P5 := Lib.hid (P4.out.bel ((Below.refl w4.heap.size w4).alloc (Nat.le_refl _) (.cells (mom 8285 49021) 24)))
  have B5 := Lib.hid (B4.out.alloc B4.out.size (.cells (mom 8285 49021) 24))
  simp only [mom] at Q5 P5 B5
  clear P4 B4
  go_upto_region 4 with fail
  generalize w4.alloc _ = w5 at Q5 P5 B5 ⊢
  obtain ⟨g5, hg5⟩ : ∃ g, w4.heap.size = g := ⟨_, rfl⟩
  rw [hg5] at Q5 ⊢
  clear hg5
  have c0 : w5.cell? ⟨g1, 0, none⟩ = some (.int .u16 33) := P5.out.cell 0
  have c1 : w5.cell? ⟨g1, 1, none⟩ = some (.int .u16 0) := P5.out.cell 1
  have c2 : w5.cell? ⟨g5, 0, none⟩ = some (.int .u16 8285) := Q5.out.cell 0
  have c3 : w5.cell? ⟨g5, 1, none⟩ = some (.int .u16 49021) := Q5.out.cell 1
  go_wp2_with fail
  refine (RI.out w5).mono ?_; rintro e w6 ⟨rfl, b6⟩
  have B6 := Lib.hid (bel_after B5.out (Nat.le_refl _) b6)
  go_wp2_with fail
  refine (DA.out w6).mono ?_; rintro e _ ⟨rfl, rfl⟩
  go_wp2_with fail
  go_ret
  exact ⟨rfl, B6.out⟩
end Go.Proofs.YtdoclbgmbneggaaDoor
