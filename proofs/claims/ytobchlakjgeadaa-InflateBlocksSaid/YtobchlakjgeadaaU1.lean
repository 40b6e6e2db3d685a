/-
  The walk of InflateSigns: it answers true, and changes nothing that was there. Conditions: none.
-/
import Derived.Test.YtobchlakjgeadaaTF
namespace Go.Proofs.Ytobchlakjgeadaa
open Go.RowKit
set_option maxRecDepth 100000

theorem optV_form (o : Option (Nat × Nat)) : ∃ (x y : Int) (z : Bool), optV o = .tuple #[.int .i64 x, .int .i64 y, .bool z] := by
  cases o with
  | none => exact ⟨0, 0, false, rfl⟩
  | some p => exact ⟨p.1, p.2, true, rfl⟩
theorem optI_form (s : Int) (f : Nat → Option (Nat × Nat)) : ∃ (x y : Int) (z : Bool), (if s < 0 then optV none else optV (f s.toNat)) = .tuple #[.int .i64 x, .int .i64 y, .bool z] := by
  split
  · exact optV_form _
  · exact optV_form _

theorem run_index40 (f : Nat → Int) (k : Nat) (hk : k < 19) (W : World) : (Instr.index 40 (.agg (rn 19 f)) (.int .i64 k)).run Try.prog W = .ok (.int .i64 (f k)) W := by
  have h2 : (0 : Int) ≤ k ∧ (k : Int) < 19 := by omega
  have hv := rn_get 19 f k hk
  simp [Instr.index, asIntOf, go_sem, run_underlying Try.underlying40, h2, part, Try.sizeOf3, Try.isAgg3, hv]
  omega

theorem ordZ_get : ∀ k, k < 19 → (iv ordZ)[k]? = some (.int .i64 (ordI k)) := by
  intro k hk
  have h1 : k < ordZ.length := hk
  rw [iv_get? h1]
  have : ∀ k, (h : k < 19) → ordZ.getD k 0 = ordI k := by decide
  have h2 := this k hk
  simp [List.getD, h1] at h2
  rw [h2]

set_option maxHeartbeats 1000000 in
theorem signs_law (s : Int) (w : World) : Calls Try.prog 5 #[.int .i64 s] w fun e w' => e = .returned (.bool true) ∧ Below w.heap.size w w' := by
  obtain ⟨x, y, z, hL⟩ := optI_form s lenOf
  obtain ⟨x2, y2, z2, hD⟩ := optI_form s dstOf
  have C1 := Lib.hid (fun W => length_any s W)
  have C2 := Lib.hid (fun W => refLength_any s W)
  have C3 := Lib.hid (fun W => distance_any s W)
  have C4 := Lib.hid (fun W => refDistance_any s W)
  rw [hL] at C1 C2
  rw [hD] at C3 C4
  clear hL hD
  go_enter Try.func5, Try.ntmps5
  go_wp2_with fail
  refine (fixed_any w).mono ?_; rintro e w1 ⟨rfl, hb1⟩; have B1 := Lib.hid hb1; clear hb1
  go_wp2_with fail
  refine (C1.out _).mono ?_; rintro e w2 ⟨rfl, rfl⟩
  go_wp2_with fail
  refine (C2.out _).mono ?_; rintro e w2 ⟨rfl, rfl⟩
  go_wp2_with fail
  refine (C3.out _).mono ?_; rintro e w3 ⟨rfl, rfl⟩
  go_wp2_with fail
  refine (C4.out _).mono ?_; rintro e w4 ⟨rfl, rfl⟩
  go_wp2_with fail
  refine (refOrder_any _).mono ?_
  rintro e w5 ⟨g, rfl, hW, hg, hb5⟩
  have B5 := Lib.hid (B1.out.trans (hb5.mono B1.out.size))
  have W5 := Lib.hid hW
  clear hb5 hW
  go_wp2_with fail
  go_loopw [45] (fun i wr => ∃ k : Nat, k ≤ 19 ∧ i = .int .i64 k ∧ Whole wr g 3 (iv ordZ).toArray ∧ Below w.heap.size w wr) (fun i _ => 19 - (intOf i).toNat)
  case atStart => exact ⟨0, by omega, rfl, W5.out, B5.out⟩
  case round =>
    obtain ⟨k, hk, rfl, hWr, hbr⟩ := hrel
    by_cases hlt : k < 19
    · have ck : wr.cell? ⟨g, k, none⟩ = some (.int .i64 (ordI k)) := by
        rw [hWr.cell k]
        simpa using ordZ_get k hlt
      have hix := fun W => run_index40 ordI k hlt W
      obtain ⟨ok, hok⟩ : ∃ ok, ordI k = ok := ⟨_, rfl⟩
      rw [hok] at ck
      rw [hok] at hix
      clear hok
      have HW := Lib.hid hWr
      have HB := Lib.hid hbr
      clear hWr hbr
      go_wp2_with fail
      refine (order_any _).mono ?_
      rintro e w6 ⟨rfl, hb6⟩
      have HW6 := Lib.hid (HW.out.only (Only.of_below hb6 Nob) (fun h => h))
      have HB6 := Lib.hid (HB.out.trans (hb6.mono HB.out.size))
      clear hb6
      go_wp2_with fail
      go_roundw
      case rel => exact ⟨k + 1, by omega, by go_num, HW6.out, HB6.out⟩
      case measure => simp [intOf]; omega
    · obtain rfl : k = 19 := by omega
      have HB := Lib.hid hbr
      clear hWr hbr
      go_wp2_with fail
      go_ret
      exact ⟨by simp, HB.out⟩
end Go.Proofs.Ytobchlakjgeadaa
