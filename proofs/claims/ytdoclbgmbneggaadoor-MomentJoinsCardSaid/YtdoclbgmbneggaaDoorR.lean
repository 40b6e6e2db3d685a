/-
  MomentJoins: the law's walk. Conditions: the table of powers of ten is as the library lays it.
-/
import Derived.Test.YtdoclbgmbneggaaDoorQ
namespace Go.Proofs.YtdoclbgmbneggaaDoor
open Go.RowKit
set_option maxRecDepth 100000

set_option maxHeartbeats 1000000 in
theorem joins_yes (y m d h i s : Int) (w : World) (ht : Tab w) : Calls Tryd.prog 4 #[.int .i64 y, .int .i64 m, .int .i64 d, .int .i64 h, .int .i64 i, .int .i64 s] w (Gives w (.bool true)) := by
  have FX := Lib.hid (fixed_yes w ht)
  have J := Lib.hid (fun W => join_any y m d h i s W)
  have K := Lib.hid (fun W => refJoin_any y m d h i s W)
  obtain ⟨a, b, e0, hJ⟩ : ∃ a b e, jo y m d h i s = (a, b, e) := ⟨_, _, _, rfl⟩
  rw [hJ] at J K
  have DA := Lib.hid (fun W => days_any y m W)
  have DB := Lib.hid (fun W => refDays_any y m W)
  generalize daysM y m = D at *
  clear hJ ht
  simp only [joV, mom] at J K
  go_enter Tryd.func4, Tryd.ntmps4
  go_wp2_with fail
  refine (FX.out).mono ?_; rintro e w0 ⟨rfl, b0⟩
  have B0 := Lib.hid b0
  clear b0 FX
  go_wp2_with fail
  refine (J.out w0).mono ?_; rintro e w1 ⟨rfl, b1⟩
  have P1 := Lib.hid (Whole.new w1 24 (mom a b))
  have B1 := Lib.hid ((bel_after B0.out (Nat.le_refl _) b1).alloc (Nat.le_trans B0.out.size b1.size) (.cells (mom a b) 24))
  simp only [mom] at P1 B1
  clear b1 J B0
  go_upto_region 4 with fail
  generalize w1.alloc _ = w2 at P1 B1 ⊢
  obtain ⟨g1, hg1⟩ : ∃ g, w1.heap.size = g := ⟨_, rfl⟩
  rw [hg1] at P1 ⊢
  clear hg1
  go_wp2_with fail
  refine (K.out w2).mono ?_; rintro e w3 ⟨rfl, b3⟩
  have P3 := Lib.hid (P1.out.bel b3)
  have B3 := Lib.hid (bel_after B1.out (Nat.le_refl _) b3)
  clear b3 K P1 B1
  have Q4 := Lib.hid (Whole.new w3 24 (mom a b))
  have P4 := Lib.hid (P3.out.bel ((Below.refl w3.heap.size w3).alloc (Nat.le_refl _) (.cells (mom a b) 24)))
  have B4 := Lib.hid (B3.out.alloc B3.out.size (.cells (mom a b) 24))
  simp only [mom] at Q4 P4 B4
  clear P3 B3
  go_upto_region 5 with fail
  generalize w3.alloc _ = w4 at Q4 P4 B4 ⊢
  obtain ⟨g3, hg3⟩ : ∃ g, w3.heap.size = g := ⟨_, rfl⟩
  rw [hg3] at Q4 ⊢
  clear hg3
  have c0 : w4.cell? ⟨g1, 0, none⟩ = some (.int .u16 a) := P4.out.cell 0
  have c1 : w4.cell? ⟨g1, 1, none⟩ = some (.int .u16 b) := P4.out.cell 1
  have c2 : w4.cell? ⟨g3, 0, none⟩ = some (.int .u16 a) := Q4.out.cell 0
  have c3 : w4.cell? ⟨g3, 1, none⟩ = some (.int .u16 b) := Q4.out.cell 1
  go_wp2_with fail
  refine (DA.out w4).mono ?_; rintro e _ ⟨rfl, rfl⟩
  go_wp2_with fail
  refine (DB.out w4).mono ?_; rintro e w5 ⟨rfl, b5⟩
  have B5 := Lib.hid (bel_after B4.out (Nat.le_refl _) b5)
  go_wp2_with fail
  go_ret
  exact ⟨rfl, B5.out⟩
end Go.Proofs.YtdoclbgmbneggaaDoor
