/-
  Contracts of the smallest functions of runs, in the program and in the document. Conditions: each theorem names its own.
-/
import Derived.Test.YtnobeghnljjidaaA
namespace Go.Proofs.Ytnobeghnljjidaa
open Go.RowKit
set_option maxRecDepth 100000

theorem bits_any (s : Int) (w : World) : Calls Try.prog 6 #[.int .i64 s] w fun e w' => e = .returned (.int .i64 (bitsR s)) ∧ w = w' := by
  obtain ⟨r, hr⟩ : ∃ r, bitsR s = r := ⟨_, rfl⟩
  rw [hr]
  unfold bitsR at hr
  go_enter Try.func6, Try.ntmps6
  go_wp2
  all_goals go_ret
  all_goals exact ⟨ret_int (by simp_all), rfl⟩

theorem rbits_any (s : Int) (w : World) : Calls Try.prog 7 #[.int .i64 s] w fun e w' => e = .returned (.int .i64 (bitsR s)) ∧ w = w' := by
  obtain ⟨r, hr⟩ : ∃ r, bitsR s = r := ⟨_, rfl⟩
  rw [hr]
  unfold bitsR at hr
  go_enter Try.func7, Try.ntmps7
  go_wp2
  all_goals go_ret
  all_goals exact ⟨ret_int (by simp_all), rfl⟩

theorem least_any (s : Int) (w : World) : Calls Try.prog 16 #[.int .i64 s] w fun e w' => e = .returned (.int .i64 (leastR s)) ∧ w = w' := by
  obtain ⟨r, hr⟩ : ∃ r, leastR s = r := ⟨_, rfl⟩
  rw [hr]
  unfold leastR at hr
  go_enter Try.func16, Try.ntmps16
  go_wp2
  all_goals go_ret
  all_goals exact ⟨ret_int (by simp_all), rfl⟩

theorem beyond_any (s : Int) (w : World) : Calls Try.prog 18 #[.int .i64 s] w fun e w' => e = .returned (.bool (decide (s < 0) || decide (15 < s))) ∧ w = w' := by
  by_cases h : s < 0
  · have d : decide (s < 0) = true := decide_eq_true h
    go_enter Try.func18, Try.ntmps18
    go_wp2
    go_ret
    exact ⟨by simp [h], rfl⟩
  · have d : decide (s < 0) = false := decide_eq_false h
    go_enter Try.func18, Try.ntmps18
    go_wp2
    go_ret
    exact ⟨by simp, rfl⟩

theorem bits_quiet (s b : Int) (h : bitsR s = b) (w : World) (n : Nat) : Calls Try.prog 6 #[.int .i64 s] (w.drewN n) fun e w'' => e = .returned (.int .i64 b) ∧ ∃ m, w'' = w.drewN m := by
  subst h
  exact (bits_any s (w.drewN n)).mono fun _ _ ⟨he, hw⟩ => ⟨he, n, hw.symm⟩
theorem least_quiet (s b : Int) (h : leastR s = b) (w : World) (n : Nat) : Calls Try.prog 16 #[.int .i64 s] (w.drewN n) fun e w'' => e = .returned (.int .i64 b) ∧ ∃ m, w'' = w.drewN m := by
  subst h
  exact (least_any s (w.drewN n)).mono fun _ _ ⟨he, hw⟩ => ⟨he, n, hw.symm⟩

theorem below_drewN {k : Nat} {w w' : World} (h : Below k w w') (n : Nat) : Below k w (w'.drewN n) := ⟨h.os, h.tape, h.output, h.size, h.block⟩
theorem below_drew {k : Nat} {w w' : World} (h : Below k w w') : Below k w w'.drew := ⟨h.os, h.tape, h.output, h.size, h.block⟩

theorem right_any (s m : Int) (w : World) : Calls Try.prog 8 #[.agg #[.int .i64 s, .int .i64 m]] w (Gives w (.bool (rightR ⟨s, m⟩))) := by
  obtain ⟨r, hr⟩ : ∃ r, rightR ⟨s, m⟩ = r := ⟨_, rfl⟩
  rw [hr]
  unfold rightR at hr
  simp only at hr
  have hz := shl_room s
  have hb := bitsR_nums s
  obtain ⟨b, hbb⟩ : ∃ b, bitsR s = b := ⟨_, rfl⟩
  rw [hbb] at hz hb
  obtain ⟨z, hzz⟩ : ∃ z, roomR s = z := ⟨_, rfl⟩
  have hzp := roomR_pos s
  rw [hzz] at hz hr hzp
  have HBB := Lib.hid hbb
  obtain ⟨b, rfl⟩ := Int.eq_ofNat_of_zero_le hb.1
  rw [Int.toNat_natCast] at hz
  have b0 : (0 : Int) ≤ b := by omega
  have HB : Hid (Below w.heap.size w (w.alloc (.cells #[.int .i64 s, .int .i64 m] 26))) := Lib.hid ((Below.refl _ _).alloc (Nat.le_refl _) _)
  have hW := Whole.new w 26 #[.int .i64 s, .int .i64 m]
  have q0 : (w.alloc (.cells #[.int .i64 s, .int .i64 m] 26)).cell? ⟨w.heap.size, 0, none⟩ = some (.int .i64 s) := hW.cell 0
  have q1 : (w.alloc (.cells #[.int .i64 s, .int .i64 m] 26)).cell? ⟨w.heap.size, 1, none⟩ = some (.int .i64 m) := hW.cell 1
  have hz2 := room_pow s
  rw [hzz, hbb, Int.toNat_natCast] at hz2
  have wz : wrap64 (2 ^ b) = z := by rw [hz2]; exact IntWalk.wrap64_in z (by omega)
  clear hz2 hzz
  clear hW hbb
  by_cases h1 : 0 ≤ s
  · have d1 : decide (0 ≤ s) = true := decide_eq_true h1
    by_cases h2 : s ≤ 18
    · have d2 : decide (s ≤ 18) = true := decide_eq_true h2
      by_cases h3 : 0 ≤ m
      · have d3 : decide (0 ≤ m) = true := decide_eq_true h3
        rw [d1, d2, d3] at hr
        have HR := Lib.hid hr; clear hr
        go_enter Try.func8, Try.ntmps8
        go_wp2_with fail
        go_quiet ((go_at_call 6; exact bits_quiet s b HBB.out _ _))
        go_wp2_with fail
        go_ret
        exact ⟨by rw [← HR.out]; simp [wz], below_drewN HB.out _⟩
      · have d3 : decide (0 ≤ m) = false := decide_eq_false h3
        rw [d1, d2, d3] at hr
        have HR := Lib.hid hr; clear hr
        go_enter Try.func8, Try.ntmps8
        go_wp2_with fail
        go_quiet ((go_at_call 6; exact bits_quiet s b HBB.out _ _))
        go_wp2_with fail
        go_ret
        exact ⟨by rw [← HR.out]; rfl, below_drewN HB.out _⟩
    · have d2 : decide (s ≤ 18) = false := decide_eq_false h2
      rw [d1, d2] at hr
      have HR := Lib.hid hr; clear hr
      go_enter Try.func8, Try.ntmps8
      go_wp2_with fail
      go_quiet ((go_at_call 6; exact bits_quiet s b HBB.out _ _))
      go_wp2_with fail
      go_ret
      exact ⟨by rw [← HR.out]; rfl, below_drewN HB.out _⟩
  · have d1 : decide (0 ≤ s) = false := decide_eq_false h1
    rw [d1] at hr
    have HR := Lib.hid hr; clear hr
    go_enter Try.func8, Try.ntmps8
    go_wp2_with fail
    go_quiet ((go_at_call 6; exact bits_quiet s b HBB.out _ _))
    go_wp2_with fail
    go_ret
    exact ⟨by rw [← HR.out]; rfl, below_drewN HB.out _⟩

/-- Halved again and again. -/
theorem half_end (m : Int) (h0 : 0 ≤ m) (b : Nat) : (m / 2 ^ b = 0) ↔ m < 2 ^ b := by
  have hp : (0 : Int) < 2 ^ b := by exact_mod_cast Nat.pos_of_ne_zero (by simp)
  constructor
  · intro h
    have := Int.lt_ediv_add_one_mul_self m hp
    rw [h] at this
    simpa using this
  · intro h
    exact Int.ediv_eq_zero_of_lt h0 h

theorem rright_any (s m : Int) (hm1 : m ≤ 9223372036854775807) (w : World) : Calls Try.prog 9 #[.int .i64 s, .int .i64 m] w fun e w' => e = .returned (.bool (rightR ⟨s, m⟩)) ∧ w = w' := by
  obtain ⟨r, hr⟩ : ∃ r, rightR ⟨s, m⟩ = r := ⟨_, rfl⟩
  rw [hr]
  unfold rightR at hr
  simp only at hr
  have hb := bitsR_nums s
  have hz := room_pow s
  obtain ⟨z, hzz⟩ : ∃ z, roomR s = z := ⟨_, rfl⟩
  rw [hzz] at hz hr
  obtain ⟨b, hbb⟩ : ∃ b, bitsR s = b := ⟨_, rfl⟩
  have CB := Lib.hid (fun W => rbits_any s W)
  rw [hbb] at hz hb CB
  clear hbb hzz
  obtain ⟨b, rfl⟩ := Int.eq_ofNat_of_zero_le hb.1
  rw [Int.toNat_natCast] at hz
  by_cases h1 : 0 ≤ s
  · by_cases h2 : s ≤ 18
    · by_cases h3 : 0 ≤ m
      · have d1 : decide (s < 0) = false := decide_eq_false (by omega)
        have d2 : decide (18 < s) = false := decide_eq_false (by omega)
        have d3 : decide (m < 0) = false := decide_eq_false (by omega)
        rw [decide_eq_true h1, decide_eq_true h2, decide_eq_true h3] at hr
        have hE : Hid (r = decide (m / 2 ^ b = 0)) := Lib.hid (by rw [← hr, ← hz]; simp only [Bool.true_and, Bool.and_self]; rw [decide_eq_decide]; exact (half_end m h3 b).symm)
        clear hr hz
        go_enter Try.func9, Try.ntmps9
        go_wp2_with fail
        go_loop [1, 5] (fun x i => ∃ k : Nat, k ≤ b ∧ i = .int .i64 k ∧ ∃ y : Int, Hid (y = m / 2 ^ k) ∧ 0 ≤ y ∧ y ≤ 9223372036854775807 ∧ x = .int .i64 y) (fun _ i => b - (intOf i).toNat)
        case atStart => exact ⟨0, Nat.zero_le _, rfl, m, Lib.hid (by simp), h3, hm1, rfl⟩
        case round =>
          obtain ⟨k, hk, rfl, y, hy, y0, y1, rfl⟩ := hrel
          by_cases hlt : k < b
          · have dl : decide ((k : Int) < b) = true := decide_eq_true (by omega)
            go_wp2_with (go_at_call 7; refine (CB.out _).mono ?_; rintro e w2 ⟨rfl, rfl⟩)
            go_roundw
            case rel => exact ⟨k + 1, by omega, by go_num, y / 2, Lib.hid (by rw [hy.out, Int.ediv_ediv_of_nonneg (by exact_mod_cast Nat.zero_le _), Int.pow_succ]), by omega, by omega, by rfl⟩
            case measure => simp [intOf]; omega
          · obtain rfl : k = b := by omega
            go_wp2_with (go_at_call 7; refine (CB.out _).mono ?_; rintro e w2 ⟨rfl, rfl⟩)
            go_ret
            exact ⟨by rw [hE.out, ← hy.out]; rfl, rfl⟩
      · have d1 : decide (s < 0) = false := decide_eq_false (by omega)
        have d2 : decide (18 < s) = false := decide_eq_false (by omega)
        have d3 : decide (m < 0) = true := decide_eq_true (by omega)
        rw [decide_eq_true h1, decide_eq_true h2, decide_eq_false h3] at hr
        simp at hr
        subst hr
        go_enter Try.func9, Try.ntmps9
        go_wp2_with fail
        go_ret
        exact ⟨rfl, rfl⟩
    · have d1 : decide (s < 0) = false := decide_eq_false (by omega)
      have d2 : decide (18 < s) = true := decide_eq_true (by omega)
      rw [decide_eq_true h1, decide_eq_false h2] at hr
      simp at hr
      subst hr
      go_enter Try.func9, Try.ntmps9
      go_wp2_with fail
      go_ret
      exact ⟨rfl, rfl⟩
  · have d1 : decide (s < 0) = true := decide_eq_true (by omega)
    rw [decide_eq_false h1] at hr
    simp at hr
    subst hr
    go_enter Try.func9, Try.ntmps9
    go_wp2_with fail
    go_ret
    exact ⟨rfl, rfl⟩
end Go.Proofs.Ytnobeghnljjidaa
