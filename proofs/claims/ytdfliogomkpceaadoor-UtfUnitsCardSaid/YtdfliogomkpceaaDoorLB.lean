/-
  UtfUnits' and UtfOrder's walks. Conditions: unicode/utf8's tables as they are laid, and the library's greatest length as some number.
-/
import Derived.Test.YtdfliogomkpceaaDoorLA
namespace Go.Proofs.YtdfliogomkpceaaDoor
open Go Go.RowKit
set_option maxRecDepth 100000

set_option maxHeartbeats 8000000 in
theorem units_yes (l : List Nat) (hl : ∀ x ∈ l, x < 65536) (A : Option Addr) (n c B : Nat) (hn : l.length = n) (m : Int) (w : World) (hw : Fit m w) (hA : Seen w B 1 A n c (uv l)) (hB : B ≤ w.heap.size) :
    Calls Tryd.prog 4 #[.slice A n c] w (Gives w (.bool true)) := by
  have CF := Lib.hid (fixed_any m w hw)
  have HA := Lib.hid hA
  have HL := Lib.hid hl
  clear hA hl
  by_cases g1 : 300 < n
  · have e1 : decide ((300 : Int) < (n : Int)) = true := by rw [decide_eq_true_iff]; omega
    go_enter Tryd.func4, Tryd.ntmps4
    go_wp2_with (go_at_call 6; refine CF.out.mono ?_; rintro e w1 ⟨rfl, b1⟩)
    go_ret
    exact ⟨rfl, b1⟩
  have e1 : decide ((300 : Int) < (n : Int)) = false := by rw [decide_eq_false_iff_not]; omega
  have hub := uBs_le l
  obtain ⟨U, hU⟩ : ∃ U, uBs l = U := ⟨_, rfl⟩
  have hun : unitsM U = some l := (units_iff U l).2 ⟨hU, HL.out⟩
  have C1 := Lib.hid (fun W (h : Seen W B 1 A n c (uv l)) (hB : B ≤ W.heap.size) => pBytes_any l HL.out A n c B hn (by omega) W h hB)
  have C2 := Lib.hid (fun W => pUnits_any U U.length rfl (by rw [← hU]; omega) W)
  have C3 := Lib.hid (fun W (h : Seen W B 1 A n c (uv l)) (hB : B ≤ W.heap.size) => unitBytes_any l HL.out A n c B hn (by omega) W h hB)
  rw [hU] at C1 C3
  rw [hun] at C2
  obtain ⟨S, hS⟩ : ∃ S, tx U = S := ⟨_, rfl⟩
  rw [hS] at C1 C2 C3
  have hss : (S.toList == S.toList) = true := by simp
  have HN := Lib.hid hn
  clear hU hun hS hub hn
  go_enter Tryd.func4, Tryd.ntmps4
  go_wp2_with fail
  refine CF.out.mono ?_
  rintro e w1 ⟨rfl, b1⟩
  have HA1 := Lib.hid (HA.out.below (b1.mono hB))
  have B1 := Lib.hid b1
  clear b1
  go_wp2_with fail
  refine (C1.out _ HA1.out (Nat.le_trans hB B1.out.size)).mono ?_
  rintro e w2 ⟨rfl, b2⟩
  have B2 := Lib.hid (B1.out.trans (b2.mono B1.out.size))
  clear b2
  go_wp2_with fail
  refine (C2.out _).mono ?_
  rintro e w3 ⟨v3, rfl, b3, -, s3⟩
  have o3 := s3 l rfl
  obtain ⟨A3, c3, rfl, -⟩ := own_form o3
  rw [HN.out] at o3 ⊢
  have S3 := Lib.hid (Seen.of_own o3)
  have B3 := Lib.hid (B2.out.trans (b3.mono B2.out.size))
  clear b3 s3 o3
  go_wp2_with fail
  refine (C3.out _ (HA.out.below (B3.out.mono hB)) (Nat.le_trans hB B3.out.size)).mono ?_
  rintro e w4 ⟨rfl, b4⟩
  have S4 := Lib.hid ((S3.out.below b4).more b4.size)
  have B4 := Lib.hid (B3.out.trans (b4.mono B3.out.size))
  have HA4 := Lib.hid (HA.out.below (B4.out.mono hB))
  have hB4 : B ≤ w4.heap.size := Nat.le_trans hB B4.out.size
  clear b4 S3 B3 B2 B1 HA1
  go_wp2_with fail
  go_loopg [36] n (fun j v wr => ∃ k : Nat, k ≤ n ∧ j = n - k ∧ v = .int .i64 k ∧ Below w4.heap.size w4 wr)
  case atStart => exact ⟨0, by omega, rfl, rfl, Below.refl _ _⟩
  case round =>
    obtain ⟨k, hk, rfl, rfl, hbl⟩ := hrel
    obtain ⟨wo, rfl⟩ : ∃ W, W = wr := ⟨_, rfl⟩
    have BL := Lib.hid hbl
    clear hbl
    by_cases hlt : k < n
    · have d0 : decide ((k : Int) < (n : Int)) = true := by rw [decide_eq_true_iff]; omega
      have hkl : k < l.length := by rw [HN.out]; exact hlt
      obtain ⟨b5, o5, u5, rfl, _, hu5, hc5⟩ := (HA4.out.below (BL.out.mono hB4)).at hlt
      obtain ⟨b6, o6, u6, rfl, _, hu6, hc6⟩ := (S4.out.below BL.out).at hlt
      obtain rfl : u5 = .int .u16 (l[k] : Nat) := (Option.some.inj ((uv_at l k hkl).symm.trans hu5)).symm
      obtain rfl : u6 = .int .u16 (l[k] : Nat) := (Option.some.inj ((uv_at l k hkl).symm.trans hu6)).symm
      obtain ⟨p, hp⟩ : ∃ p, l[k] = p := ⟨_, rfl⟩
      rw [hp] at hc5 hc6
      have hc5d : wo.drew.cell? ⟨b5, o5 + k, none⟩ = some (.int .u16 (p : Nat)) := hc5
      have hc6d : wo.drew.cell? ⟨b6, o6 + k, none⟩ = some (.int .u16 (p : Nat)) := hc6
      have q1 : IntKind.i64.wrap (k : Int) = (k : Int) := IntWalk.i64_in _ (by omega)
      have q2 : (0 : Int) ≤ (k : Int) := by omega
      have q3 : (k : Int) < (n : Int) := by omega
      have HBW : Hid (Below w4.heap.size w4 wo.drew) := Lib.hid ⟨BL.out.os, BL.out.tape, BL.out.output, BL.out.size, BL.out.block⟩
      have dp : ((p : Int) == (p : Int)) = true := by simp
      clear hu5 hu6 hp
      go_upto_region 12 with fail
      refine wp_region_still_lit (by kernel_rfl) (by kernel_rfl) ?_
      repeat still_step
      refine wpStill_nil ?_
      go_wp2_with fail
      go_roundg (n - (k + 1))
      case measure => omega
      case rel => exact ⟨k + 1, by omega, rfl, by go_num, HBW.out⟩
    · obtain rfl : k = n := by omega
      have d0 : decide ((k : Int) < (k : Int)) = false := by rw [decide_eq_false_iff_not]; omega
      go_wp2_with fail
      go_ret
      exact ⟨rfl, B4.out.trans (BL.out.mono B4.out.size)⟩
end Go.Proofs.YtdfliogomkpceaaDoor
