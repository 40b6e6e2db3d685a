/-
  A moment of six numbers: the document's Join. Conditions: none (any six numbers).
-/
import Derived.Test.YtdoclbgmbneggaaDoorF
namespace Go.Proofs.YtdoclbgmbneggaaDoor
open Go.RowKit
set_option maxRecDepth 100000

set_option maxHeartbeats 1000000 in
theorem refJoin_any (y mo d h mi s : Int) (w : World) : Calls Tryd.prog 17 #[.agg #[.int .i64 y, .int .i64 mo, .int .i64 d, .int .i64 h, .int .i64 mi, .int .i64 s]] w (Gives w (joV (jo y mo d h mi s))) := by
  obtain ⟨r, hr⟩ : ∃ r, joV (jo y mo d h mi s) = r := ⟨_, rfl⟩
  rw [hr]
  have hr := Lib.hid hr
  have MM := Lib.hid (fun W => parts_any y mo d h mi s W)
  have F30 := Lib.hid ((Whole.new w 32 (six y mo d h mi s)))
  have F24 := Lib.hid ((Whole.new (w.alloc (.cells (six y mo d h mi s) 32)) 24 (mom 0 0)))
  have B0 := Lib.hid (((Below.refl w.heap.size w).alloc (Nat.le_refl _) (.cells (six y mo d h mi s) 32)).alloc (by simp) (.cells (mom 0 0) 24))
  go_enter Tryd.func17, Tryd.ntmps17
  go_wp2_with fail
  have E30 : Hid (Whole ((w.alloc (.cells (six y mo d h mi s) 32)).alloc (.cells (mom 0 0) 24)) w.heap.size 32 (six y mo d h mi s)) := Lib.hid (F30.out.bel ((Below.refl _ _).alloc (Nat.le_refl _) _))
  have E24 : Hid (Whole ((w.alloc (.cells (six y mo d h mi s) 32)).alloc (.cells (mom 0 0) 24)) (w.heap.size + 1) 24 (mom 0 0)) := by
    have hz := F24
    rw [show (w.alloc (.cells (six y mo d h mi s) 32)).heap.size = w.heap.size + 1 by simp] at hz
    exact hz
  clear F30 F24
  obtain ⟨wa, hwa⟩ : ∃ W, (w.alloc (.cells (six y mo d h mi s) 32)).alloc (.cells (mom 0 0) 24) = W := ⟨_, rfl⟩
  rw [hwa] at E30 E24 B0
  simp only [six, mom00] at hwa
  rw [hwa]
  clear hwa
  refine (MM.out wa).mono ?_; rintro e w1 ⟨rfl, b1⟩
  have G30 := Lib.hid (E30.out.bel b1)
  have G24 := Lib.hid (E24.out.bel b1)
  have B1 := Lib.hid (bel_after B0.out (Nat.le_refl _) b1)
  clear b1 E30 E24 B0 MM
  by_cases hm : mayM y mo d h mi s = false
  · have hj : jo y mo d h mi s = (0, 0, 5) := by unfold jo; rw [if_pos hm]
    rw [hj] at hr
    rw [hm]
    go_wp2_with (refine wpList_store_row rfl 24 (.tmp 2) (.tmp 7) rfl (w.heap.size + 1) (mom 0 0) rfl rfl 24 (mom 0 0) G24.out (mom_size 0 0) rfl (mom_one 0 0) ?_)
    have Z24 : Hid (Whole (w1.setRow (w.heap.size + 1) (mom 0 0)) (w.heap.size + 1) 24 (mom 0 0)) := Lib.hid (G24.out.setRow (mom 0 0))
    have Z := Lib.hid (below_setRow B1.out (mom 0 0) (Nat.le_succ _))
    refine bodyPost_ret (results_mom (p := 2) (u := 3) rfl _ _ (w.heap.size + 1) 0 0 rfl Z24.out) rfl ?_
    exact ⟨by rw [← hr.out]; rfl, Z.out⟩
  have hmt : mayM y mo d h mi s = true := by simpa using hm
  obtain ⟨r1, r2, r3, r4, r5, r6⟩ := mayM_true hmt
  rw [hmt]
  by_cases hs : s % 2 ≠ 0
  · have hj : jo y mo d h mi s = (0, 0, 2) := by unfold jo; rw [if_neg hm, if_pos hs]
    rw [hj] at hr
    have ht : s.tmod 2 = 1 := by rw [Int.tmod_eq_emod_of_nonneg (by omega)]; omega
    clear hm hmt hs hj r1 r2 r3 r4 r5 r6
    obtain ⟨c0, c1, c2, c3, c4, c5⟩ := six_cells G30.out
    go_wp2_with (refine wpList_store_row rfl 24 (.tmp 2) (.tmp 12) rfl (w.heap.size + 1) (mom 0 0) rfl rfl 24 (mom 0 0) G24.out (mom_size 0 0) rfl (mom_one 0 0) ?_)
    have Z24 : Hid (Whole (w1.setRow (w.heap.size + 1) (mom 0 0)) (w.heap.size + 1) 24 (mom 0 0)) := Lib.hid (G24.out.setRow (mom 0 0))
    have Z := Lib.hid (below_setRow B1.out (mom 0 0) (Nat.le_succ _))
    refine bodyPost_ret (results_mom (p := 2) (u := 3) rfl _ _ (w.heap.size + 1) 0 0 rfl Z24.out) rfl ?_
    exact ⟨by rw [← hr.out]; rfl, Z.out⟩
  · have ht : s.tmod 2 = 0 := by rw [Int.tmod_eq_emod_of_nonneg (by omega)]; omega
    have hj : jo y mo d h mi s = ((y - 1980).toNat * 512 + mo.toNat * 32 + d.toNat, h.toNat * 2048 + mi.toNat * 32 + s.toNat / 2, 0) := by unfold jo; rw [if_neg hm, if_neg hs]
    rw [hj] at hr
    clear hj hm hmt
    obtain ⟨Y, rfl⟩ : ∃ Y : Nat, y = 1980 + Y := ⟨(y - 1980).toNat, by omega⟩
    obtain ⟨M, rfl⟩ : ∃ Y : Nat, mo = Y := ⟨mo.toNat, by omega⟩
    obtain ⟨D, rfl⟩ : ∃ Y : Nat, d = Y := ⟨d.toNat, by omega⟩
    obtain ⟨H, rfl⟩ : ∃ Y : Nat, h = Y := ⟨h.toNat, by omega⟩
    obtain ⟨I, rfl⟩ : ∃ Y : Nat, mi = Y := ⟨mi.toNat, by omega⟩
    obtain ⟨S, rfl⟩ : ∃ Y : Nat, s = 2 * (Y : Int) := ⟨s.toNat / 2, by omega⟩
    rw [show (1980 + (Y : Int) - 1980).toNat * 512 + (M : Int).toNat * 32 + (D : Int).toNat = Y * 512 + M * 32 + D by omega, show (H : Int).toNat * 2048 + (I : Int).toNat * 32 + (2 * (S : Int)).toNat / 2 = H * 2048 + I * 32 + S by omega] at hr
    have hY : Y < 128 := by omega
    have hM : M < 16 := by omega
    have hD : D < 32 := by omega
    have hH : H < 24 := by omega
    have hI : I < 60 := by omega
    have hS : S < 30 := by omega
    obtain ⟨c0, c1, c2, c3, c4, c5⟩ := six_cells G30.out
    have e1 : (1980 + (Y : Int)) - 1980 = Y := by omega
    have e2 : (2 * (S : Int)).tdiv 2 = S := by rw [Int.tdiv_eq_ediv_of_nonneg (by omega)]; omega
    obtain ⟨V, hV⟩ : ∃ V, Y * 512 + M * 32 + D = V := ⟨_, rfl⟩
    obtain ⟨U, hU⟩ : ∃ V, H * 2048 + I * 32 + S = V := ⟨_, rfl⟩
    have u1 : IntKind.u16.wrap (V : Int) = V := IntWalk.u16_in _ (by omega)
    have u2 : IntKind.u16.wrap (U : Int) = U := IntWalk.u16_in _ (by omega)
    have a1 : (Y : Int) * 512 + (M : Int) * 32 + (D : Int) = V := by omega
    have a2 : (H : Int) * 2048 + (I : Int) * 32 + (S : Int) = U := by omega
    rw [hV] at hr
    rw [hU] at hr
    clear r1 r2 r3 r4 r5 r6 hs hV hU
    go_wp2_with (refine wpList_store_row rfl 24 (.tmp 2) (.tmp 37) rfl (w.heap.size + 1) (mom V U) rfl rfl 24 (mom 0 0) G24.out (mom_size V U) rfl (mom_one V U) ?_)
    have Z24 : Hid (Whole (w1.setRow (w.heap.size + 1) (mom V U)) (w.heap.size + 1) 24 (mom V U)) := Lib.hid (G24.out.setRow (mom V U))
    have Z := Lib.hid (below_setRow B1.out (mom V U) (Nat.le_succ _))
    refine bodyPost_ret (results_mom (p := 2) (u := 3) rfl _ _ (w.heap.size + 1) V U rfl Z24.out) rfl ?_
    exact ⟨by rw [← hr.out]; rfl, Z.out⟩
end Go.Proofs.YtdoclbgmbneggaaDoor
