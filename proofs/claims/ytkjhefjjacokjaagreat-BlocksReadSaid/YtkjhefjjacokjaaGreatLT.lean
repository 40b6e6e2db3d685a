/-
  Contracts of inflate's Length and Distance, and of the document's. Conditions: none.
  Contracts of LengthSign and DistanceSign, in the program and in the document. Conditions: none but the range that each theorem names.
  Contracts of LengthSign and DistanceSign, in the program and in the document. Conditions: none.
-/
import Derived.Test.YtkjhefjjacokjaaGreatF
import Derived.BigQuiet
import Derived.Deep.LoopGhost
namespace Go.Proofs.YtkjhefjjacokjaaGreat
open Go.RowKit
set_option maxRecDepth 100000
/-- The least length of a sign, and the bits that are added. -/
def lenOf (s : Nat) : Option (Nat × Nat) :=
  if s < 257 ∨ 285 < s then none else if s = 285 then some (258, 0) else if s < 265 then some (s - 254, 0)
  else some ((4 + (s - 257) % 4) * 2 ^ ((s - 257) / 4 - 1) + 3, (s - 257) / 4 - 1)
/-- The least distance of a sign, and the bits that are added. -/
def dstOf (s : Nat) : Option (Nat × Nat) :=
  if 29 < s then none else if s < 4 then some (s + 1, 0) else some ((2 + s % 2) * 2 ^ (s / 2 - 1) + 1, s / 2 - 1)
/-- What Length and Distance answer. -/
def optV : Option (Nat × Nat) → Value
  | none => .tuple #[.int .i64 0, .int .i64 0, .bool false]
  | some (b, n) => .tuple #[.int .i64 b, .int .i64 n, .bool true]
theorem lenOf_bits (s b n : Nat) (h : lenOf s = some (b, n)) : n ≤ 5 ∧ b ≤ 258 := by
  unfold lenOf at h
  split at h
  · cases h
  · split at h
    · injection h with h; injection h with h1 h2; omega
    · split at h
      · injection h with h; injection h with h1 h2; omega
      · rename_i h1 h2 h3
        injection h with h; injection h with e1 e2
        have : ∀ d, d < 28 → 8 ≤ d → d / 4 - 1 ≤ 5 ∧ (4 + d % 4) * 2 ^ (d / 4 - 1) + 3 ≤ 258 := by decide
        have := this (s - 257) (by omega) (by omega)
        omega
theorem dstOf_bits (s b n : Nat) (h : dstOf s = some (b, n)) : n ≤ 13 ∧ b ≤ 24577 ∧ 1 ≤ b := by
  unfold dstOf at h
  split at h
  · cases h
  · split at h
    · injection h with h; injection h with h1 h2; omega
    · rename_i h1 h2
      injection h with h; injection h with e1 e2
      have : ∀ d, d < 30 → 4 ≤ d → d / 2 - 1 ≤ 13 ∧ (2 + d % 2) * 2 ^ (d / 2 - 1) + 1 ≤ 24577 := by decide
      have := this s (by omega) (by omega)
      omega
theorem length_any (s : Int) (w : World) : Calls Tryz.prog 45 #[.int .i64 s] w fun e w' => e = .returned (if s < 0 then optV none else optV (lenOf s.toNat)) ∧ w = w' := by
  by_cases h1 : s < 257 ∨ 285 < s
  · have e : (if s < 0 then optV none else optV (lenOf s.toNat)) = optV none := by
      split
      · rfl
      · unfold lenOf; rw [if_pos (by omega)]
    rw [e]
    clear e
    by_cases h2 : s < 257
    · clear h1
      go_enter Tryz.func45, Tryz.ntmps45
      go_wp2
      go_ret3
      exact ⟨rfl, rfl⟩
    · have h3 : decide (s < 257) = false := decide_eq_false h2
      have h4 : decide (285 < s) = true := decide_eq_true (h1.resolve_left h2)
      clear h1
      go_enter Tryz.func45, Tryz.ntmps45
      go_wp2
      go_ret3
      exact ⟨rfl, rfl⟩
  · have n0 : ¬ s < 0 := by omega
    rw [if_neg n0]
    have h3 : decide (s < 257) = false := decide_eq_false (by omega)
    have h4 : decide (285 < s) = false := decide_eq_false (by omega)
    by_cases h5 : s = 285
    · subst h5
      go_enter Tryz.func45, Tryz.ntmps45
      go_wp2
      go_ret3
      exact ⟨rfl, rfl⟩
    · have h6 : (s == 285) = false := by simpa using h5
      by_cases h7 : s < 265
      · have e : lenOf s.toNat = some ((s - 254).toNat, 0) := by
          unfold lenOf; rw [if_neg (by omega), if_neg (by omega), if_pos (by omega)]; congr 2; omega
        rw [e]
        have h8 : decide (s < 265) = true := decide_eq_true h7
        have E : Hid (((s - 254).toNat : Int) = s - 257 + 3) := Lib.hid (by omega)
        clear e
        go_enter Tryz.func45, Tryz.ntmps45
        go_wp2
        go_ret3
        refine ⟨?_, rfl⟩
        simp only [optV]
        rw [E.out]
        rfl
      · have h8 : decide (s < 265) = false := decide_eq_false h7
        obtain ⟨d, hd⟩ : ∃ d : Nat, s - 257 = d := ⟨(s - 257).toNat, by omega⟩
        have e : lenOf s.toNat = some ((4 + d % 4) * 2 ^ (d / 4 - 1) + 3, d / 4 - 1) := by
          unfold lenOf; rw [if_neg (by omega), if_neg (by omega), if_neg (by omega)]
          have : s.toNat - 257 = d := by omega
          rw [this]
        rw [e]
        have hd2 : d < 28 := by omega
        have hd3 : 8 ≤ d := by omega
        have hall : ∀ d, d < 28 → 8 ≤ d → d / 4 - 1 ≤ 5 ∧ (4 + d % 4) * 2 ^ (d / 4 - 1) + 3 ≤ 258 := by decide
        have hal := hall d hd2 hd3
        clear hall
        obtain ⟨q, hq⟩ : ∃ q, d / 4 = q := ⟨_, rfl⟩
        obtain ⟨r, hr⟩ : ∃ r, d % 4 = r := ⟨_, rfl⟩
        obtain ⟨k, hk⟩ : ∃ k, q - 1 = k := ⟨_, rfl⟩
        have eq1 : (d : Int).tdiv 4 = q := by rw [Int.tdiv_eq_ediv_of_nonneg (by omega)]; omega
        have eq2 : (d : Int).tmod 4 = r := by rw [Int.tmod_eq_emod_of_nonneg (by omega)]; omega
        have eq3 : (d : Int) / 4 = q := by omega
        have eq4 : (d : Int) % 4 = r := by omega
        have eq5 : (q : Int) - 1 = k := by omega
        rw [hq, hr, hk] at hal ⊢
        have hr4 : r < 4 := by omega
        have EB : Hid ((4 + (r : Int)) * 2 ^ k + 3 = ((4 + r) * 2 ^ k + 3 : Nat)) := Lib.hid (by simp)
        have EW : Hid (wrap64 ((4 + (r : Int)) * 2 ^ k) = (4 + (r : Int)) * 2 ^ k) := Lib.hid (by
          have : ((4 + (r : Int)) * 2 ^ k) = ((4 + r) * 2 ^ k : Nat) := by simp
          rw [this]
          exact IntWalk.wrap64_in _ (by omega))
        have EW2 : Hid (wrap64 ((4 + (r : Int)) * 2 ^ k + 3) = (4 + (r : Int)) * 2 ^ k + 3) := Lib.hid (by
          have : ((4 + (r : Int)) * 2 ^ k + 3) = ((4 + r) * 2 ^ k + 3 : Nat) := by simp
          rw [this]
          exact IntWalk.wrap64_in _ (by omega))
        have hk5 := hal.1
        clear e hq hr hk hal
        go_enter Tryz.func45, Tryz.ntmps45
        go_wp2
        go_ret3
        refine ⟨?_, rfl⟩
        simp only [optV]
        rw [EW.out, EW2.out, EB.out]
        rfl
theorem distance_any (s : Int) (w : World) : Calls Tryz.prog 46 #[.int .i64 s] w fun e w' => e = .returned (if s < 0 then optV none else optV (dstOf s.toNat)) ∧ w = w' := by
  by_cases h1 : s < 0 ∨ 30 ≤ s
  · have e : (if s < 0 then optV none else optV (dstOf s.toNat)) = optV none := by
      split
      · rfl
      · unfold dstOf; rw [if_pos (by omega)]
    rw [e]
    clear e
    by_cases h2 : s < 0
    · clear h1
      go_enter Tryz.func46, Tryz.ntmps46
      go_wp2
      go_ret3
      exact ⟨rfl, rfl⟩
    · have h3 : decide (s < 0) = false := decide_eq_false h2
      have h4 : decide (30 ≤ s) = true := decide_eq_true (h1.resolve_left h2)
      clear h1
      go_enter Tryz.func46, Tryz.ntmps46
      go_wp2
      go_ret3
      exact ⟨rfl, rfl⟩
  · have n0 : ¬ s < 0 := by omega
    rw [if_neg n0]
    have h3 : decide (s < 0) = false := decide_eq_false (by omega)
    have h4 : decide (30 ≤ s) = false := decide_eq_false (by omega)
    obtain ⟨d, rfl⟩ : ∃ d : Nat, s = d := ⟨s.toNat, by omega⟩
    by_cases h7 : d < 4
    · have e : dstOf ((d : Int).toNat) = some (d + 1, 0) := by
        unfold dstOf; rw [if_neg (by omega), if_pos (by omega)]; simp
      rw [e]
      have h8 : decide ((d : Int) < 4) = true := decide_eq_true (by omega)
      clear e
      go_enter Tryz.func46, Tryz.ntmps46
      go_wp2
      go_ret3
      exact ⟨rfl, rfl⟩
    · have h8 : decide ((d : Int) < 4) = false := decide_eq_false (by omega)
      have e : dstOf ((d : Int).toNat) = some ((2 + d % 2) * 2 ^ (d / 2 - 1) + 1, d / 2 - 1) := by
        unfold dstOf; rw [if_neg (by omega), if_neg (by omega)]; simp
      rw [e]
      have hall : ∀ d, d < 30 → 4 ≤ d → d / 2 - 1 ≤ 13 ∧ (2 + d % 2) * 2 ^ (d / 2 - 1) + 1 ≤ 24577 := by decide
      have hal := hall d (by omega) (by omega)
      clear hall
      obtain ⟨q, hq⟩ : ∃ q, d / 2 = q := ⟨_, rfl⟩
      obtain ⟨r, hr⟩ : ∃ r, d % 2 = r := ⟨_, rfl⟩
      obtain ⟨k, hk⟩ : ∃ k, q - 1 = k := ⟨_, rfl⟩
      have eq1 : (d : Int).tdiv 2 = q := by rw [Int.tdiv_eq_ediv_of_nonneg (by omega)]; omega
      have eq2 : (d : Int).tmod 2 = r := by rw [Int.tmod_eq_emod_of_nonneg (by omega)]; omega
      have eq3 : (d : Int) / 2 = q := by omega
      have eq4 : (d : Int) % 2 = r := by omega
      have eq5 : (q : Int) - 1 = k := by omega
      rw [hq, hr, hk] at hal ⊢
      have hr4 : r < 2 := by omega
      have EB : Hid ((2 + (r : Int)) * 2 ^ k + 1 = ((2 + r) * 2 ^ k + 1 : Nat)) := Lib.hid (by simp)
      have EW : Hid (wrap64 ((2 + (r : Int)) * 2 ^ k) = (2 + (r : Int)) * 2 ^ k) := Lib.hid (by
        have : ((2 + (r : Int)) * 2 ^ k) = ((2 + r) * 2 ^ k : Nat) := by simp
        rw [this]
        exact IntWalk.wrap64_in _ (by omega))
      have EW2 : Hid (wrap64 ((2 + (r : Int)) * 2 ^ k + 1) = (2 + (r : Int)) * 2 ^ k + 1) := Lib.hid (by
        have : ((2 + (r : Int)) * 2 ^ k + 1) = ((2 + r) * 2 ^ k + 1 : Nat) := by simp
        rw [this]
        exact IntWalk.wrap64_in _ (by omega))
      have hk5 := hal.1
      clear e hq hr hk hal
      go_enter Tryz.func46, Tryz.ntmps46
      go_wp2
      go_ret3
      refine ⟨?_, rfl⟩
      simp only [optV]
      rw [EW.out, EW2.out, EB.out]
      rfl
/-- Bits that are added to a length's sign, to a distance's. -/
def mrb (s : Nat) : Nat := if s < 265 then 0 else (s - 265) / 4 + 1
def frb (s : Nat) : Nat := if s < 4 then 0 else s / 2 - 1
/-- The least length of the sign 257 + d, the least distance of the sign d. -/
def lbase : Nat → Nat
  | 0 => 3
  | d + 1 => lbase d + 2 ^ mrb (257 + d)
def dbase : Nat → Nat
  | 0 => 1
  | d + 1 => dbase d + 2 ^ frb d
theorem lenOf_base : ∀ d, d < 28 → lenOf (257 + d) = some (lbase d, mrb (257 + d)) ∧ lbase d ≤ 258 ∧ mrb (257 + d) ≤ 5 := by decide
theorem dstOf_base : ∀ d, d < 30 → dstOf d = some (dbase d, frb d) ∧ dbase d ≤ 24577 ∧ frb d ≤ 13 := by decide
theorem pow13 {k : Nat} (h : k ≤ 13) : 2 ^ k ≤ 8192 := Nat.pow_le_pow_right (n := 2) (i := k) (j := 13) (by omega) h
theorem more_call (s : Nat) (hs : s ≤ 1000) (w : World) : Calls Tryz.prog 51 #[.int .i64 s] w fun e w' => e = .returned (.int .i64 (mrb s : Nat)) ∧ w' = w := by
  by_cases h : s < 265
  · have e : mrb s = 0 := if_pos h
    rw [e]
    have d : decide ((s : Int) < 265) = true := decide_eq_true (by omega)
    clear e
    go_enter Tryz.func51, Tryz.ntmps51
    go_wp2
    go_ret
    exact ⟨rfl, rfl⟩
  · obtain ⟨d, rfl⟩ : ∃ d, s = 265 + d := ⟨s - 265, by omega⟩
    have e : mrb (265 + d) = d / 4 + 1 := by unfold mrb; rw [if_neg h]; congr 2; omega
    rw [e]
    obtain ⟨q, hq⟩ : ∃ q, d / 4 = q := ⟨_, rfl⟩
    have w1 : ((265 + d : Nat) : Int) - 265 = d := by omega
    have w2 : (d : Int).tdiv 4 = q := by rw [Int.tdiv_eq_ediv_of_nonneg (by omega)]; omega
    have w3 : (d : Int) / 4 = q := by omega
    have dd : decide (((265 + d : Nat) : Int) < 265) = false := decide_eq_false (by omega)
    obtain ⟨t, ht⟩ : ∃ t, 265 + d = t := ⟨_, rfl⟩
    rw [ht] at w1 dd ⊢
    have E : Hid ((q : Int) + 1 = (d / 4 + 1 : Nat)) := Lib.hid (by omega)
    have hq2 : q ≤ 1000 := by omega
    clear h e hq
    go_enter Tryz.func51, Tryz.ntmps51
    go_wp2
    go_ret
    exact ⟨ret_int E.out, rfl⟩
theorem far_call (s : Nat) (hs : s ≤ 1000) (w : World) : Calls Tryz.prog 52 #[.int .i64 s] w fun e w' => e = .returned (.int .i64 (frb s : Nat)) ∧ w' = w := by
  by_cases h : s < 4
  · have e : frb s = 0 := if_pos h
    rw [e]
    have d : decide ((s : Int) < 4) = true := decide_eq_true (by omega)
    clear e
    go_enter Tryz.func52, Tryz.ntmps52
    go_wp2
    go_ret
    exact ⟨rfl, rfl⟩
  · have e : frb s = s / 2 - 1 := if_neg h
    rw [e]
    obtain ⟨q, hq⟩ : ∃ q, s / 2 = q := ⟨_, rfl⟩
    have w2 : (s : Int).tdiv 2 = q := by rw [Int.tdiv_eq_ediv_of_nonneg (by omega)]; omega
    have w3 : (s : Int) / 2 = q := by omega
    have dd : decide ((s : Int) < 4) = false := decide_eq_false (by omega)
    have E : Hid ((q : Int) - 1 = (s / 2 - 1 : Nat)) := Lib.hid (by omega)
    have hq2 : q ≤ 1000 := by omega
    have hq1 : 2 ≤ q := by omega
    clear h e hq
    go_enter Tryz.func52, Tryz.ntmps52
    go_wp2
    go_ret
    exact ⟨ret_int E.out, rfl⟩
set_option maxHeartbeats 1000000 in
theorem refLength_in (d : Nat) (hd : d < 28) (w : World) : Calls Tryz.prog 29 #[.int .i64 (257 + d : Nat)] w fun e w' => e = .returned (optV (lenOf (257 + d))) ∧ w' = w := by
  have hB := lenOf_base d hd
  rw [hB.1]
  have HB : Hid (∀ k, k ≤ d → lbase k ≤ 258 ∧ mrb (257 + k) ≤ 5) := Lib.hid (fun k hk => (lenOf_base k (by omega)).2)
  obtain ⟨s, hs⟩ : ∃ s, 257 + d = s := ⟨_, rfl⟩
  rw [hs]
  have s1 : 257 ≤ s := by omega
  have s2 : s < 285 := by omega
  have HS := Lib.hid hs
  have CM := Lib.hid (fun k hk W => more_call k hk W)
  have g1 : decide ((s : Int) < 257) = false := decide_eq_false (by omega)
  have g2 : decide (285 < (s : Int)) = false := decide_eq_false (by omega)
  have g3 : ((s : Int) == 285) = false := by simp; omega
  have g4 : ¬ (s : Int) = 285 := by omega
  clear hs hB
  go_enter Tryz.func29, Tryz.ntmps29
  go_wp2_with fail
  go_loop [5, 6, 7, 8] (fun ba ss _ _ => ∃ k : Nat, k ≤ d ∧ ss = .int .i64 (257 + k : Nat) ∧ ba = .int .i64 (lbase k : Nat)) (fun _ ss _ _ => s - (intOf ss).toNat)
  case atStart => exact ⟨0, by omega, rfl, rfl⟩
  case round =>
    obtain ⟨k, hk, rfl, rfl⟩ := hrel
    have hbk := HB.out k hk
    obtain ⟨bb, hbb⟩ : ∃ bb, lbase k = bb := ⟨_, rfl⟩
    rw [hbb] at hbk ⊢
    obtain ⟨t, ht⟩ : ∃ t, 257 + k = t := ⟨_, rfl⟩
    rw [ht] at hbk ⊢
    obtain ⟨m, hm⟩ : ∃ m, mrb t = m := ⟨_, rfl⟩
    rw [hm] at hbk
    have HBB : Hid (lbase (k + 1) = bb + 2 ^ m) := Lib.hid (by rw [lbase, hbb, ht, hm])
    have HM := Lib.hid hm
    have HT := Lib.hid ht
    have HB0 := Lib.hid hbb
    have CMt : Hid (∀ W, Calls Tryz.prog 51 #[.int .i64 t] W fun e w' => e = .returned (.int .i64 (m : Nat)) ∧ w' = W) := Lib.hid (fun W => by rw [← HM.out]; exact CM.out t (by omega) W)
    by_cases hlt : k < d
    · have hts : decide (t < s) = true := decide_eq_true (by have := HS.out; omega)
      have hts2 : t < s := by have := HS.out; omega
      clear hm hbb ht
      go_wp2_with fail
      go_loop [7, 8] (fun st i => ∃ j : Nat, j ≤ m ∧ i = .int .i64 j ∧ st = .int .i64 (2 ^ j : Nat)) (fun _ i => m - (intOf i).toNat)
      case atStart => exact ⟨0, by omega, rfl, rfl⟩
      case round =>
        obtain ⟨j, hj, rfl, rfl⟩ := hrel
        have hp := pow13 (show j ≤ 13 by omega)
        have EP : Hid (((2 ^ j : Nat) : Int) * 2 = ((2 ^ (j + 1) : Nat) : Int)) := Lib.hid (by rw [Nat.pow_succ]; omega)
        obtain ⟨P, hP⟩ : ∃ P, 2 ^ j = P := ⟨_, rfl⟩
        rw [hP] at hp EP ⊢
        have HP := Lib.hid hP; clear hP
        by_cases hjm : j < m
        · have djm : decide (j < m) = true := decide_eq_true hjm
          go_wp2_with fail
          refine (CMt.out _).mono ?_; rintro e w1 ⟨rfl, rfl⟩
          go_wp2_with fail
          go_round
          case rel => exact ⟨j + 1, by omega, by go_num, by rw [← EP.out]⟩
          case measure => simp [intOf]; omega
        · obtain rfl : j = m := by omega
          have djm : decide (j < j) = false := decide_eq_false (by omega)
          go_wp2_with fail
          refine (CMt.out _).mono ?_; rintro e w1 ⟨rfl, rfl⟩
          go_wp2_with fail
          go_round
          case rel => exact ⟨k + 1, by omega, by have := HT.out; rw [show 257 + (k + 1) = t + 1 by omega]; go_num, by rw [HBB.out, HP.out]; go_num⟩
          case measure => simp [intOf]; omega
    · obtain rfl : k = d := by omega
      have hts : t = s := by have := HS.out; omega
      subst hts
      clear hm hbb ht hlt
      have dts : decide (t < t) = false := decide_eq_false (by omega)
      go_wp2_with fail
      refine (CMt.out _).mono ?_; rintro e w1 ⟨rfl, rfl⟩
      go_wp2_with fail
      go_ret3
      refine ⟨?_, rfl⟩
      simp only [optV]
      first
        | rw [HB0.out, HM.out]
        | rw [HB0.out, HT.out, HM.out]
      rfl
set_option maxHeartbeats 1000000 in
theorem refDistance_in (d : Nat) (hd : d < 30) (w : World) : Calls Tryz.prog 31 #[.int .i64 (d : Nat)] w fun e w' => e = .returned (optV (dstOf (d))) ∧ w' = w := by
  have hB := dstOf_base d hd
  rw [hB.1]
  have HB : Hid (∀ k, k ≤ d → dbase k ≤ 24577 ∧ frb (k) ≤ 13) := Lib.hid (fun k hk => (dstOf_base k (by omega)).2)
  obtain ⟨s, hs⟩ : ∃ s, d = s := ⟨_, rfl⟩
  rw [show (.int .i64 (d : Nat) : Value) = .int .i64 (s : Nat) by rw [hs]]
  have s1 : 0 ≤ s := by omega
  have s2 : s < 30 := by omega
  have HS := Lib.hid hs
  have CM := Lib.hid (fun k hk W => far_call k hk W)
  have g1 : decide ((s : Int) < 0) = false := decide_eq_false (by omega)
  have g2 : decide (29 < (s : Int)) = false := decide_eq_false (by omega)
  clear hs hB
  go_enter Tryz.func31, Tryz.ntmps31
  go_wp2_with fail
  go_loop [5, 6, 7, 8] (fun ba ss _ _ => ∃ k : Nat, k ≤ d ∧ ss = .int .i64 (k : Nat) ∧ ba = .int .i64 (dbase k : Nat)) (fun _ ss _ _ => s - (intOf ss).toNat)
  case atStart => exact ⟨0, by omega, rfl, rfl⟩
  case round =>
    obtain ⟨k, hk, rfl, rfl⟩ := hrel
    have hbk := HB.out k hk
    obtain ⟨bb, hbb⟩ : ∃ bb, dbase k = bb := ⟨_, rfl⟩
    rw [hbb] at hbk ⊢
    obtain ⟨t, ht⟩ : ∃ t, k = t := ⟨_, rfl⟩
    rw [ht] at hbk ⊢
    obtain ⟨m, hm⟩ : ∃ m, frb t = m := ⟨_, rfl⟩
    rw [hm] at hbk
    have HBB : Hid (dbase (k + 1) = bb + 2 ^ m) := Lib.hid (by rw [dbase, hbb, ht, hm])
    have HM := Lib.hid hm
    have HT := Lib.hid ht
    have HB0 := Lib.hid hbb
    have CMt : Hid (∀ W, Calls Tryz.prog 52 #[.int .i64 t] W fun e w' => e = .returned (.int .i64 (m : Nat)) ∧ w' = W) := Lib.hid (fun W => by rw [← HM.out]; exact CM.out t (by omega) W)
    by_cases hlt : k < d
    · have hts : decide (t < s) = true := decide_eq_true (by have := HS.out; omega)
      have hts2 : t < s := by have := HS.out; omega
      clear hm hbb ht
      go_wp2_with fail
      go_loop [7, 8] (fun st i => ∃ j : Nat, j ≤ m ∧ i = .int .i64 j ∧ st = .int .i64 (2 ^ j : Nat)) (fun _ i => m - (intOf i).toNat)
      case atStart => exact ⟨0, by omega, rfl, rfl⟩
      case round =>
        obtain ⟨j, hj, rfl, rfl⟩ := hrel
        have hp := pow13 (show j ≤ 13 by omega)
        have EP : Hid (((2 ^ j : Nat) : Int) * 2 = ((2 ^ (j + 1) : Nat) : Int)) := Lib.hid (by rw [Nat.pow_succ]; omega)
        obtain ⟨P, hP⟩ : ∃ P, 2 ^ j = P := ⟨_, rfl⟩
        rw [hP] at hp EP ⊢
        have HP := Lib.hid hP; clear hP
        by_cases hjm : j < m
        · have djm : decide (j < m) = true := decide_eq_true hjm
          go_wp2_with fail
          refine (CMt.out _).mono ?_; rintro e w1 ⟨rfl, rfl⟩
          go_wp2_with fail
          go_round
          case rel => exact ⟨j + 1, by omega, by go_num, by rw [← EP.out]⟩
          case measure => simp [intOf]; omega
        · obtain rfl : j = m := by omega
          have djm : decide (j < j) = false := decide_eq_false (by omega)
          go_wp2_with fail
          refine (CMt.out _).mono ?_; rintro e w1 ⟨rfl, rfl⟩
          go_wp2_with fail
          go_round
          case rel => exact ⟨k + 1, by omega, by have := HT.out; rw [show k + 1 = t + 1 by omega]; go_num, by rw [HBB.out, HP.out]; go_num⟩
          case measure => simp [intOf]; omega
    · obtain rfl : k = d := by omega
      have hts : t = s := by have := HS.out; omega
      subst hts
      clear hm hbb ht hlt
      have dts : decide (t < t) = false := decide_eq_false (by omega)
      go_wp2_with fail
      refine (CMt.out _).mono ?_; rintro e w1 ⟨rfl, rfl⟩
      go_wp2_with fail
      go_ret3
      refine ⟨?_, rfl⟩
      simp only [optV]
      first
        | rw [HB0.out, HM.out]
        | rw [HB0.out, HT.out, HM.out]
      rfl
theorem refLength_any (s : Int) (w : World) : Calls Tryz.prog 29 #[.int .i64 s] w fun e w' => e = .returned (if s < 0 then optV none else optV (lenOf s.toNat)) ∧ w' = w := by
  by_cases h1 : s < 257 ∨ 285 < s
  · have e : (if s < 0 then optV none else optV (lenOf s.toNat)) = optV none := by
      split
      · rfl
      · unfold lenOf; rw [if_pos (by omega)]
    rw [e]
    clear e
    by_cases h2 : s < 257
    · clear h1
      go_enter Tryz.func29, Tryz.ntmps29
      go_wp2
      go_ret3
      exact ⟨rfl, rfl⟩
    · have h3 : decide (s < 257) = false := decide_eq_false h2
      have h4 : decide (285 < s) = true := decide_eq_true (h1.resolve_left h2)
      clear h1
      go_enter Tryz.func29, Tryz.ntmps29
      go_wp2
      go_ret3
      exact ⟨rfl, rfl⟩
  · by_cases h5 : s = 285
    · subst h5
      go_enter Tryz.func29, Tryz.ntmps29
      go_wp2
      go_ret3
      exact ⟨rfl, rfl⟩
    · obtain ⟨d, rfl⟩ : ∃ d : Nat, s = ((257 + d : Nat) : Int) := ⟨(s - 257).toNat, by omega⟩
      rw [if_neg (by omega)]
      exact refLength_in d (by omega) w
theorem refDistance_any (s : Int) (w : World) : Calls Tryz.prog 31 #[.int .i64 s] w fun e w' => e = .returned (if s < 0 then optV none else optV (dstOf s.toNat)) ∧ w' = w := by
  by_cases h1 : s < 0 ∨ 29 < s
  · have e : (if s < 0 then optV none else optV (dstOf s.toNat)) = optV none := by
      split
      · rfl
      · unfold dstOf; rw [if_pos (by omega)]
    rw [e]
    clear e
    by_cases h2 : s < 0
    · clear h1
      go_enter Tryz.func31, Tryz.ntmps31
      go_wp2
      go_ret3
      exact ⟨rfl, rfl⟩
    · have h3 : decide (s < 0) = false := decide_eq_false h2
      have h4 : decide (29 < s) = true := decide_eq_true (h1.resolve_left h2)
      clear h1
      go_enter Tryz.func31, Tryz.ntmps31
      go_wp2
      go_ret3
      exact ⟨rfl, rfl⟩
  · obtain ⟨d, rfl⟩ : ∃ d : Nat, s = (d : Int) := ⟨s.toNat, by omega⟩
    rw [if_neg (by omega)]
    exact refDistance_in d (by omega) w
end Go.Proofs.YtkjhefjjacokjaaGreat

namespace Go.Proofs.YtkjhefjjacokjaaGreat
open Go.RowKit
set_option maxRecDepth 100000
/-- The sign whose least number is the greatest not above n. -/
def great (b : Nat → Nat) (lo n : Nat) : Nat → Nat
  | 0 => lo
  | k + 1 => if b (lo + k + 1) ≤ n then lo + k + 1 else great b lo n k
/-- That s is that sign. -/
def SignOf (b : Nat → Nat) (lo hi n s : Nat) : Prop := lo ≤ s ∧ s < hi ∧ b s ≤ n ∧ ∀ t, s < t → t < hi → n < b t
theorem great_sign (b : Nat → Nat) (lo n : Nat) (h0 : b lo ≤ n) : ∀ k, SignOf b lo (lo + k + 1) n (great b lo n k)
  | 0 => ⟨Nat.le_refl _, Nat.lt_succ_self _, h0, fun t h1 h2 => by simp only [great] at h1; omega⟩
  | k + 1 => by
    unfold great
    by_cases h : b (lo + k + 1) ≤ n
    · rw [if_pos h]
      exact ⟨by omega, by omega, h, fun t h1 h2 => by omega⟩
    · rw [if_neg h]
      obtain ⟨h1, h2, h3, h4⟩ := great_sign b lo n h0 k
      refine ⟨h1, by omega, h3, fun t h5 h6 => ?_⟩
      by_cases e : t = lo + k + 1
      · subst e; omega
      · exact h4 t h5 (by omega)
theorem SignOf.uniq {b : Nat → Nat} {lo hi n s s' : Nat} (h : SignOf b lo hi n s) (h' : SignOf b lo hi n s') : s = s' := by
  obtain ⟨h1, h2, h3, h4⟩ := h
  obtain ⟨g1, g2, g3, g4⟩ := h'
  rcases Nat.lt_trichotomy s s' with e | e | e
  · have := h4 s' e g2; omega
  · exact e
  · have := g4 s e h2; omega
theorem below_drewN {k : Nat} {w w' : World} (h : Below k w w') (n : Nat) : Below k w (w'.drewN n) := ⟨h.os, h.tape, h.output, h.size, h.block⟩
theorem below_drew {k : Nat} {w w' : World} (h : Below k w w') : Below k w w'.drew := ⟨h.os, h.tape, h.output, h.size, h.block⟩
def lenB (s : Nat) : Nat := match lenOf s with | some p => p.1 | none => 0
def lenM (s : Nat) : Nat := match lenOf s with | some p => p.2 | none => 0
def dstB (s : Nat) : Nat := match dstOf s with | some p => p.1 | none => 0
def dstM (s : Nat) : Nat := match dstOf s with | some p => p.2 | none => 0
/-- A length's sign, a distance's. -/
def lsn (n : Nat) : Nat := great lenB 257 n 28
def dsn (n : Nat) : Nat := great dstB 0 n 29
theorem lenB_step : ∀ d, d < 28 → lenB (257 + d) < lenB (257 + d + 1) := by decide
theorem dstB_step : ∀ d, d < 29 → dstB d < dstB (d + 1) := by decide
theorem lenB_mono {s t : Nat} (h1 : 257 ≤ s) (h2 : s ≤ t) (h3 : t < 286) : lenB s ≤ lenB t := by
  obtain ⟨k, rfl⟩ := Nat.exists_eq_add_of_le h2
  induction k with
  | zero => exact Nat.le_refl _
  | succ k ih =>
    obtain ⟨d, rfl⟩ := Nat.exists_eq_add_of_le h1
    have := lenB_step (d + k) (by omega)
    have h := ih (by omega) (by omega)
    rw [← Nat.add_assoc] at this
    rw [← Nat.add_assoc]
    omega
theorem dstB_mono {s t : Nat} (h2 : s ≤ t) (h3 : t < 30) : dstB s ≤ dstB t := by
  obtain ⟨k, rfl⟩ := Nat.exists_eq_add_of_le h2
  induction k with
  | zero => exact Nat.le_refl _
  | succ k ih =>
    have := dstB_step (s + k) (by omega)
    have h := ih (by omega) (by omega)
    rw [← Nat.add_assoc]
    omega
theorem lenB_max : ∀ d, d < 29 → lenB (257 + d) ≤ 258 ∧ lenM (257 + d) ≤ 5 ∧ lenOf (257 + d) = some (lenB (257 + d), lenM (257 + d)) := by decide
theorem dstB_max : ∀ d, d < 30 → dstB d ≤ 24577 ∧ dstM d ≤ 13 ∧ dstOf d = some (dstB d, dstM d) := by decide
/-- A function that tells least numbers of signs. -/
def LeastFn (F : FuncId) (b m : Nat → Nat) (lo hi : Nat) : Prop :=
  ∀ s, lo ≤ s → s < hi → ∀ W, Calls Tryz.prog F #[.int .i64 (s : Nat)] W fun e w' => e = .returned (.tuple #[.int .i64 (b s : Nat), .int .i64 (m s : Nat), .bool true]) ∧ W = w'
theorem length_least : LeastFn 45 lenB lenM 257 286 := by
  intro s h1 h2 W
  obtain ⟨d, rfl⟩ := Nat.exists_eq_add_of_le h1
  refine (length_any _ W).mono ?_
  rintro e w' ⟨rfl, rfl⟩
  rw [if_neg (by omega), Int.toNat_natCast, (lenB_max d (by omega)).2.2]
  exact ⟨rfl, rfl⟩
theorem distance_least : LeastFn 46 dstB dstM 0 30 := by
  intro s h1 h2 W
  refine (distance_any _ W).mono ?_
  rintro e w' ⟨rfl, rfl⟩
  rw [if_neg (by omega), Int.toNat_natCast, (dstB_max s h2).2.2]
  exact ⟨rfl, rfl⟩
theorem refLength_least : LeastFn 29 lenB lenM 257 286 := by
  intro s h1 h2 W
  obtain ⟨d, rfl⟩ := Nat.exists_eq_add_of_le h1
  refine (refLength_any _ W).mono ?_
  rintro e w' ⟨rfl, rfl⟩
  rw [if_neg (by omega), Int.toNat_natCast, (lenB_max d (by omega)).2.2]
  exact ⟨rfl, rfl⟩
theorem refDistance_least : LeastFn 31 dstB dstM 0 30 := by
  intro s h1 h2 W
  refine (refDistance_any _ W).mono ?_
  rintro e w' ⟨rfl, rfl⟩
  rw [if_neg (by omega), Int.toNat_natCast, (dstB_max s h2).2.2]
  exact ⟨rfl, rfl⟩
theorem closure_any (F : FuncId) (hFF : F = 45 ∨ F = 46) (b m : Nat → Nat) (lo hi : Nat) (hlo : lo ≤ 1000) (hF : LeastFn F b m lo hi) (hb : ∀ s, b s ≤ 100000) (i : Nat) (hi1 : lo + i < hi) (hhi : hi ≤ 1000) (n : Nat) (g1 g2 g3 : Nat) (w : World)
    (c1 : w.cell? ⟨g1, 0, none⟩ = some (.func (.func F) #[] #[])) (c2 : w.cell? ⟨g2, 0, none⟩ = some (.int .i64 lo)) (c3 : w.cell? ⟨g3, 0, none⟩ = some (.int .i64 n)) :
    Calls Tryz.prog 74 #[.int .i64 i, .pointer (some ⟨g1, 0, none⟩), .pointer (some ⟨g2, 0, none⟩), .pointer (some ⟨g3, 0, none⟩)] w fun e w' => e = .returned (.bool (decide (n < b (lo + i)))) ∧ w = w' := by
  have CF := Lib.hid (fun W => hF (lo + i) (by omega) hi1 W)
  obtain ⟨B, hB⟩ : ∃ B, b (lo + i) = B := ⟨_, rfl⟩
  rw [hB] at CF ⊢
  have CG : Hid (∀ W, Calls Tryz.prog F #[.int .i64 ((lo : Int) + i)] W fun e w' => e = .returned (.tuple #[.int .i64 (B : Nat), .int .i64 (m (lo + i) : Nat), .bool true]) ∧ W = w') := Lib.hid (fun W => by have := CF.out W; rwa [show ((lo + i : Nat) : Int) = (lo : Int) + i by omega] at this)
  clear CF
  have hBm := hb (lo + i)
  rw [hB] at hBm
  clear hF hB
  have hdd : decide ((n : Int) < B) = decide (n < B) := by rw [decide_eq_decide]; omega
  rcases hFF with rfl | rfl
  all_goals (
    go_enter Tryz.func74, Tryz.ntmps74
    go_wp2_with fail
    refine (CG.out _).mono ?_; rintro e w2 ⟨rfl, rfl⟩
    go_wp2_with fail
    go_ret
    exact ⟨by simp, rfl⟩)
/-- What is kept of a binary search. -/
def Cut (b : Nat → Nat) (lo n N i j : Nat) : Prop := i ≤ j ∧ j ≤ N ∧ (i = 0 ∨ b (lo + i - 1) ≤ n) ∧ (j = N ∨ n < b (lo + j))
set_option maxHeartbeats 1000000 in
theorem search_any (F : FuncId) (hFF : F = 45 ∨ F = 46) (b m : Nat → Nat) (lo N : Nat) (hlo : lo ≤ 500) (hN : N ≤ 400) (hF : LeastFn F b m lo (lo + N)) (hb : ∀ s, b s ≤ 100000) (n : Nat) (g1 g2 g3 : Nat) (w : World)
    (c1 : w.cell? ⟨g1, 0, none⟩ = some (.func (.func F) #[] #[])) (c2 : w.cell? ⟨g2, 0, none⟩ = some (.int .i64 lo)) (c3 : w.cell? ⟨g3, 0, none⟩ = some (.int .i64 n)) :
    Calls Tryz.prog 73 #[.int .i64 N, .func (.func 74) #[] #[.pointer (some ⟨g1, 0, none⟩), .pointer (some ⟨g2, 0, none⟩), .pointer (some ⟨g3, 0, none⟩)]] w fun e w' => ∃ i : Nat, e = .returned (.int .i64 i) ∧ Cut b lo n N i i ∧ w = w' := by
  have CC := Lib.hid (fun (i : Nat) (h : i < N) => closure_any F hFF b m lo (lo + N) (by omega) hF hb i (by omega) (by omega) n g1 g2 g3 w c1 c2 c3)
  clear hF hb hFF c1 c2 c3
  go_enter Tryz.func73, Tryz.ntmps73
  go_wp2_with fail
  go_loopw [5, 6, 7] (fun x y _ wr => ∃ i j : Nat, x = .int .i64 i ∧ y = .int .i64 j ∧ Hid (Cut b lo n N i j) ∧ i ≤ j ∧ j ≤ N ∧ wr = w) (fun x y _ _ => (intOf y).toNat - (intOf x).toNat)
  case atStart => exact ⟨0, N, rfl, rfl, Lib.hid ⟨Nat.zero_le _, Nat.le_refl _, .inl rfl, .inl rfl⟩, Nat.zero_le _, Nat.le_refl _, rfl⟩
  case round =>
    obtain ⟨i, j, rfl, rfl, hc, hij, hjN, rfl⟩ := hrel
    by_cases hlt : i < j
    · have dl : decide ((i : Int) < j) = true := decide_eq_true (by omega)
      obtain ⟨h, hh⟩ : ∃ h, (i + j) / 2 = h := ⟨_, rfl⟩
      have eh : ((i : Int) + j) / 2 = h := by omega
      have CH := Lib.hid (CC.out h (by omega))
      have hc' := hc.out
      obtain ⟨q1, q2, q3, q4⟩ := hc'
      have HC3 := Lib.hid q3; have HC4 := Lib.hid q4
      obtain ⟨P, hP⟩ : ∃ P, decide (n < b (lo + h)) = P := ⟨_, rfl⟩
      rw [hP] at CH
      have HP := Lib.hid hP
      clear q3 q4 hP
      cases P with
      | false =>
        go_wp2_with fail
        refine CH.out.mono ?_; rintro e w2 ⟨rfl, rfl⟩
        go_wp2_with fail
        go_roundw
        case rel => exact ⟨h + 1, j, by go_num, rfl, Lib.hid ⟨by omega, by omega, .inr (by have := of_decide_eq_false HP.out; rw [show lo + (h + 1) - 1 = lo + h by omega]; omega), HC4.out⟩, by omega, by omega, by trivial⟩
        case measure => simp [intOf]; omega
      | true =>
        go_wp2_with fail
        refine CH.out.mono ?_; rintro e w2 ⟨rfl, rfl⟩
        go_wp2_with fail
        go_roundw
        case rel => exact ⟨i, h, rfl, rfl, Lib.hid ⟨by omega, by omega, HC3.out, .inr (of_decide_eq_true HP.out)⟩, by omega, by omega, by trivial⟩
        case measure => simp [intOf]; omega
    · obtain rfl : i = j := by omega
      go_wp2_with fail
      go_ret
      exact ⟨i, rfl, hc.out, rfl⟩
set_option maxHeartbeats 1000000 in
theorem greatest_any (F : FuncId) (hFF : F = 45 ∨ F = 46) (b m : Nat → Nat) (lo N : Nat) (hlo : lo ≤ 500) (hN0 : 1 ≤ N) (hN : N ≤ 400) (hF : LeastFn F b m lo (lo + N)) (hb : ∀ s, b s ≤ 100000) (hmono : ∀ s t, lo ≤ s → s ≤ t → t < lo + N → b s ≤ b t) (n : Nat) (hn : n ≤ 100000) (h0 : b lo ≤ n) (E : Int) (hE : E = lo + N) (w : World) :
    Calls Tryz.prog 44 #[.func (.func F) #[] #[], .int .i64 lo, .int .i64 E, .int .i64 n] w fun e w' => ∃ s : Nat, e = .returned (.tuple #[.int .i64 s, .int .i64 ((n - b s : Nat) : Int)]) ∧ SignOf b lo (lo + N) n s ∧ Below w.heap.size w w' := by
  have CS := Lib.hid (fun g1 g2 g3 W c1 c2 c3 => search_any F hFF b m lo N hlo hN hF hb n g1 g2 g3 W c1 c2 c3)
  have HF := Lib.hid hF
  have HM := Lib.hid hmono
  have HB := Lib.hid hb
  have eE : E - lo = N := by omega
  have wE : IntKind.i64.wrap (N : Int) = N := IntWalk.i64_in _ (by omega)
  clear hF hmono hb hE
  have hB3 : Hid (Below w.heap.size w (((w.alloc (.cells #[.func (.func F) #[] #[]] 40)).alloc (.cells #[.int .i64 lo] 3)).alloc (.cells #[.int .i64 n] 3))) := Lib.hid ((((Below.refl _ _).alloc (Nat.le_refl _) _).alloc (by simp) _).alloc (by simp; omega) _)
  have W1 : Whole (((w.alloc (.cells #[.func (.func F) #[] #[]] 40)).alloc (.cells #[.int .i64 lo] 3)).alloc (.cells #[.int .i64 n] 3)) w.heap.size 40 #[.func (.func F) #[] #[]] := ((Whole.new w 40 _).alloc _).alloc _
  have W2 : Whole (((w.alloc (.cells #[.func (.func F) #[] #[]] 40)).alloc (.cells #[.int .i64 lo] 3)).alloc (.cells #[.int .i64 n] 3)) (w.heap.size + 1) 3 #[.int .i64 lo] := by
    have := ((Whole.new (w.alloc (.cells #[.func (.func F) #[] #[]] 40)) 3 #[.int .i64 lo]).alloc (.cells #[.int .i64 n] 3))
    simpa using this
  have W3 : Whole (((w.alloc (.cells #[.func (.func F) #[] #[]] 40)).alloc (.cells #[.int .i64 lo] 3)).alloc (.cells #[.int .i64 n] 3)) (w.heap.size + 1 + 1) 3 #[.int .i64 n] := by
    have := Whole.new ((w.alloc (.cells #[.func (.func F) #[] #[]] 40)).alloc (.cells #[.int .i64 lo] 3)) 3 #[.int .i64 n]
    simpa using this
  obtain ⟨X, hX⟩ : ∃ X, (((w.alloc (.cells #[.func (.func F) #[] #[]] 40)).alloc (.cells #[.int .i64 lo] 3)).alloc (.cells #[.int .i64 n] 3)) = X := ⟨_, rfl⟩
  rw [hX] at W1 W2 W3 hB3
  have c1 : X.cell? ⟨w.heap.size, 0, none⟩ = some (.func (.func F) #[] #[]) := W1.cell 0
  have c2 : X.cell? ⟨w.heap.size + 1, 0, none⟩ = some (.int .i64 lo) := W2.cell 0
  have c3 : X.cell? ⟨w.heap.size + 1 + 1, 0, none⟩ = some (.int .i64 n) := W3.cell 0
  have CX := Lib.hid (CS.out _ _ _ X c1 c2 c3)
  have HXX := Lib.hid hX
  clear CS W1 W2 W3 hX
  rcases hFF with rfl | rfl
  all_goals (
    go_enter Tryz.func44, Tryz.ntmps44
    go_wp2_with fail
    rw [HXX.out]
    refine CX.out.mono ?_; rintro e w2 ⟨i, rfl, hcut, rfl⟩
    obtain ⟨k, rfl⟩ : ∃ k, i = k + 1 := ⟨i - 1, by
      rcases Nat.eq_zero_or_pos i with h | h
      · subst h
        rcases hcut.2.2.2 with h5 | h5
        · omega
        · simp at h5; omega
      · omega⟩
    obtain ⟨s, hs⟩ : ∃ s, lo + k = s := ⟨_, rfl⟩
    have es : (lo : Int) + ((k : Int) + 1) - 1 = s := by omega
    have es' : (lo : Int) + ((k + 1 : Nat) : Int) - 1 = s := by omega
    have hsg : SignOf b lo (lo + N) n s := by
      obtain ⟨_, q2, q3, q4⟩ := hcut
      refine ⟨by omega, by omega, ?_, fun t h1 h2 => ?_⟩
      · rcases q3 with q3 | q3
        · omega
        · rw [show lo + (k + 1) - 1 = s by omega] at q3; exact q3
      · rcases q4 with q4 | q4
        · omega
        · have := HM.out (lo + (k + 1)) t (by omega) (by omega) h2
          omega
    have CF := Lib.hid (HF.out s hsg.1 hsg.2.1 X)
    have hbs := hsg.2.2.1
    have HSG := Lib.hid hsg
    obtain ⟨B, hBB⟩ : ∃ B, b s = B := ⟨_, rfl⟩
    rw [hBB] at CF hbs
    have HBB := Lib.hid hBB
    have eB : (n : Int) - B = ((n - B : Nat) : Int) := by omega
    clear hcut hsg hBB hs
    have hk400 : k ≤ 400 := by have := HSG.out.2.1; omega
    go_wp2_with fail
    refine CF.out.mono ?_; rintro e w3 ⟨rfl, rfl⟩
    go_wp2_with fail
    go_quiet (fail)
    go_wp2_with fail
    go_ret2
    exact ⟨s, by rw [HBB.out]; rfl, HSG.out, below_drewN hB3.out _⟩)
end Go.Proofs.YtkjhefjjacokjaaGreat

namespace Go.Proofs.YtkjhefjjacokjaaGreat
open Go.RowKit
set_option maxRecDepth 100000
/-- The answer, and nothing that was there has changed. -/
def Gives (w : World) (v : Value) (e : Ending) (w' : World) : Prop := e = .returned v ∧ Below w.heap.size w w'
/-- What LengthSign, DistanceSign answer. -/
def lsV (n : Int) : Value := if n < 3 ∨ 258 < n then .tuple #[.int .i64 0, .int .i64 0, .bool false] else .tuple #[.int .i64 (lsn n.toNat : Nat), .int .i64 ((n.toNat - lenB (lsn n.toNat) : Nat) : Int), .bool true]
def dsV (n : Int) : Value := if n < 1 ∨ 32768 < n then .tuple #[.int .i64 0, .int .i64 0, .bool false] else .tuple #[.int .i64 (dsn n.toNat : Nat), .int .i64 ((n.toNat - dstB (dsn n.toNat) : Nat) : Int), .bool true]
theorem lsn_sign (n : Nat) (h : 3 ≤ n) : SignOf lenB 257 (257 + 29) n (lsn n) := great_sign lenB 257 n (by rw [show lenB 257 = 3 from rfl]; exact h) 28
theorem dsn_sign (n : Nat) (h : 1 ≤ n) : SignOf dstB 0 (0 + 30) n (dsn n) := great_sign dstB 0 n (by rw [show dstB 0 = 1 from rfl]; exact h) 29
theorem lenB_all (s : Nat) : lenB s ≤ 100000 := by
  unfold lenB
  cases h : lenOf s with
  | none => simp
  | some p => obtain ⟨b, m⟩ := p; have := lenOf_bits s b m h; simp only; omega
theorem dstB_all (s : Nat) : dstB s ≤ 100000 := by
  unfold dstB
  cases h : dstOf s with
  | none => simp
  | some p => obtain ⟨b, m⟩ := p; have := dstOf_bits s b m h; simp only; omega
theorem lengthSign_any (n : Int) (w : World) : Calls Tryz.prog 17 #[.int .i64 n] w (Gives w (lsV n)) := by
  by_cases h0 : n < 3
  · have d0 : decide (n < 3) = true := decide_eq_true h0
    have e : lsV n = .tuple #[.int .i64 0, .int .i64 0, .bool false] := if_pos (.inl h0)
    rw [e]
    clear e
    go_enter Tryz.func17, Tryz.ntmps17
    go_wp2_with fail
    go_ret3
    exact ⟨rfl, Below.refl _ _⟩
  · have d0 : decide (n < 3) = false := decide_eq_false h0
    by_cases h1 : 258 < n
    · have d1 : decide (258 < n) = true := decide_eq_true h1
      have e : lsV n = .tuple #[.int .i64 0, .int .i64 0, .bool false] := if_pos (.inr h1)
      rw [e]
      clear e
      go_enter Tryz.func17, Tryz.ntmps17
      go_wp2_with fail
      go_ret3
      exact ⟨rfl, Below.refl _ _⟩
    · have d1 : decide (258 < n) = false := decide_eq_false h1
      obtain ⟨k, rfl⟩ := Int.eq_ofNat_of_zero_le (show 0 ≤ n by omega)
      have e : lsV (k : Int) = .tuple #[.int .i64 (lsn k : Nat), .int .i64 ((k - lenB (lsn k) : Nat) : Int), .bool true] := if_neg (by omega)
      rw [e]
      have HS := Lib.hid (lsn_sign k (by omega))
      have CG := Lib.hid (fun W => greatest_any 45 (by simp) lenB lenM 257 29 (by omega) (by omega) (by omega) length_least lenB_all (fun s t h1 h2 h3 => lenB_mono h1 h2 (by omega)) k (by omega) (by rw [show lenB 257 = 3 from rfl]; omega) 286 rfl W)
      clear e h0 h1
      go_enter Tryz.func17, Tryz.ntmps17
      go_wp2_with fail
      refine (CG.out _).mono ?_; rintro e w2 ⟨s, rfl, hs, hb⟩
      have B2 := Lib.hid hb
      obtain rfl : s = lsn k := hs.uniq HS.out
      obtain ⟨B, hB⟩ : ∃ B, k - lenB (lsn k) = B := ⟨_, rfl⟩
      obtain ⟨q, hq⟩ : ∃ q, lsn k = q := ⟨_, rfl⟩
      rw [hB, hq]
      have HB3 := Lib.hid hB; have HQ3 := Lib.hid hq
      clear hb hs hB hq
      go_wp2_with fail
      go_ret3
      exact ⟨by rw [HB3.out, HQ3.out]; rfl, B2.out⟩
theorem distanceSign_any (n : Int) (w : World) : Calls Tryz.prog 18 #[.int .i64 n] w (Gives w (dsV n)) := by
  by_cases h0 : n < 1
  · have d0 : decide (n < 1) = true := decide_eq_true h0
    have e : dsV n = .tuple #[.int .i64 0, .int .i64 0, .bool false] := if_pos (.inl h0)
    rw [e]
    clear e
    go_enter Tryz.func18, Tryz.ntmps18
    go_wp2_with fail
    go_ret3
    exact ⟨rfl, Below.refl _ _⟩
  · have d0 : decide (n < 1) = false := decide_eq_false h0
    by_cases h1 : 32768 < n
    · have d1 : decide (32768 < n) = true := decide_eq_true h1
      have e : dsV n = .tuple #[.int .i64 0, .int .i64 0, .bool false] := if_pos (.inr h1)
      rw [e]
      clear e
      go_enter Tryz.func18, Tryz.ntmps18
      go_wp2_with fail
      go_ret3
      exact ⟨rfl, Below.refl _ _⟩
    · have d1 : decide (32768 < n) = false := decide_eq_false h1
      obtain ⟨k, rfl⟩ := Int.eq_ofNat_of_zero_le (show 0 ≤ n by omega)
      have e : dsV (k : Int) = .tuple #[.int .i64 (dsn k : Nat), .int .i64 ((k - dstB (dsn k) : Nat) : Int), .bool true] := if_neg (by omega)
      rw [e]
      have HS := Lib.hid (dsn_sign k (by omega))
      have CG := Lib.hid (fun W => greatest_any 46 (by simp) dstB dstM 0 30 (by omega) (by omega) (by omega) distance_least dstB_all (fun s t _ h2 h3 => dstB_mono h2 (by omega)) k (by omega) (by rw [show dstB 0 = 1 from rfl]; omega) 30 rfl W)
      clear e h0 h1
      go_enter Tryz.func18, Tryz.ntmps18
      go_wp2_with fail
      refine (CG.out _).mono ?_; rintro e w2 ⟨s, rfl, hs, hb⟩
      have B2 := Lib.hid hb
      obtain rfl : s = dsn k := hs.uniq HS.out
      obtain ⟨B, hB⟩ : ∃ B, k - dstB (dsn k) = B := ⟨_, rfl⟩
      obtain ⟨q, hq⟩ : ∃ q, dsn k = q := ⟨_, rfl⟩
      rw [hB, hq]
      have HB3 := Lib.hid hB; have HQ3 := Lib.hid hq
      clear hb hs hB hq
      go_wp2_with fail
      go_ret3
      exact ⟨by rw [HB3.out, HQ3.out]; rfl, B2.out⟩
set_option maxHeartbeats 1000000 in
theorem refLengthSign_any (n : Int) (w : World) : Calls Tryz.prog 28 #[.int .i64 n] w fun e w' => e = .returned (lsV n) ∧ w = w' := by
  by_cases h0 : n < 3
  · have d0 : decide (n < 3) = true := decide_eq_true h0
    have e : lsV n = .tuple #[.int .i64 0, .int .i64 0, .bool false] := if_pos (.inl h0)
    rw [e]
    clear e
    go_enter Tryz.func28, Tryz.ntmps28
    go_wp2_with fail
    go_ret3
    exact ⟨rfl, rfl⟩
  · have d0 : decide (n < 3) = false := decide_eq_false h0
    by_cases h1 : 258 < n
    · have d1 : decide (258 < n) = true := decide_eq_true h1
      have e : lsV n = .tuple #[.int .i64 0, .int .i64 0, .bool false] := if_pos (.inr h1)
      rw [e]
      clear e
      go_enter Tryz.func28, Tryz.ntmps28
      go_wp2_with fail
      go_ret3
      exact ⟨rfl, rfl⟩
    · have d1 : decide (258 < n) = false := decide_eq_false h1
      obtain ⟨k, rfl⟩ := Int.eq_ofNat_of_zero_le (show 0 ≤ n by omega)
      have e : lsV (k : Int) = .tuple #[.int .i64 (lsn k : Nat), .int .i64 ((k - lenB (lsn k) : Nat) : Int), .bool true] := if_neg (by omega)
      rw [e]
      have HS := Lib.hid (lsn_sign k (by omega))
      have HL := Lib.hid refLength_least
      have hk32 : k ≤ 32768 := by omega
      have hb0 : lenB 257 ≤ k := by rw [show lenB 257 = 3 from rfl]; omega
      clear e h0 h1
      go_enter Tryz.func28, Tryz.ntmps28
      go_wp2_with fail
      go_loopw [5, 6, 7, 8, 9] (fun x y _ _ _ wr => ∃ best s : Nat, x = .int .i64 best ∧ y = .int .i64 s ∧ 257 ≤ s ∧ s ≤ 286 ∧ 257 ≤ best ∧ best < 286 ∧ Hid (best ≤ s ∧ lenB best ≤ k ∧ ∀ t, best < t → t < s → k < lenB t) ∧ w = wr) (fun _ y _ _ _ _ => 286 - (intOf y).toNat)
      case atStart => exact ⟨257, 257, rfl, rfl, by omega, by omega, by omega, by omega, Lib.hid ⟨Nat.le_refl _, hb0, fun t h1 h2 => by omega⟩, rfl⟩
      case round =>
        obtain ⟨best, s, rfl, rfl, q1, q2, q3, q4, hq, rfl⟩ := hrel
        by_cases hlt : s < 286
        · have dl : decide ((s : Int) ≤ 285) = true := decide_eq_true (by omega)
          have CF := Lib.hid (HL.out s q1 (by omega) w)
          obtain ⟨B, hB⟩ : ∃ B, lenB s = B := ⟨_, rfl⟩
          rw [hB] at CF
          have HB := Lib.hid hB
          clear hB
          by_cases hBk : B ≤ k
          · have dB : decide ((B : Int) ≤ k) = true := decide_eq_true (by omega)
            go_wp2_with fail
            refine CF.out.mono ?_; rintro e w2 ⟨rfl, rfl⟩
            go_wp2_with fail
            go_roundw
            case rel => exact ⟨s, s + 1, rfl, by go_num, by omega, by omega, by omega, by omega, Lib.hid ⟨by omega, by rw [HB.out]; exact hBk, fun t h1 h2 => by omega⟩, by trivial⟩
            case measure => simp [intOf]; omega
          · have dB : decide ((B : Int) ≤ k) = false := decide_eq_false (by omega)
            go_wp2_with fail
            refine CF.out.mono ?_; rintro e w2 ⟨rfl, rfl⟩
            go_wp2_with fail
            go_roundw
            case rel => exact ⟨best, s + 1, rfl, by go_num, by omega, by omega, by omega, by omega, Lib.hid ⟨by have := hq.out.1; omega, hq.out.2.1, fun t h1 h2 => by
              by_cases e : t = s
              · subst e; rw [HB.out]; omega
              · exact hq.out.2.2 t h1 (by omega)⟩, by trivial⟩
            case measure => simp [intOf]; omega
        · obtain rfl : s = 286 := by omega
          have CF := Lib.hid (HL.out best q3 (by omega) w)
          have hsg : SignOf lenB 257 (257 + 29) k best := ⟨q3, by omega, hq.out.2.1, fun t h1 h2 => hq.out.2.2 t h1 (by omega)⟩
          obtain rfl : best = lsn k := hsg.uniq HS.out
          have hle := hsg.2.2.1
          obtain ⟨B, hB⟩ : ∃ B, lenB (lsn k) = B := ⟨_, rfl⟩
          obtain ⟨q, hqq⟩ : ∃ q, lsn k = q := ⟨_, rfl⟩
          rw [hB] at hle CF
          rw [hqq] at CF ⊢
          have eB : (k : Int) - B = ((k - B : Nat) : Int) := by omega
          have HB3 := Lib.hid hB; have HQ3 := Lib.hid hqq
          clear hsg hqq hB hq
          go_wp2_with fail
          refine CF.out.mono ?_; rintro e w2 ⟨rfl, rfl⟩
          go_wp2_with fail
          go_ret3
          exact ⟨by rw [HB3.out, HQ3.out]; rfl, rfl⟩
set_option maxHeartbeats 1000000 in
theorem refDistanceSign_any (n : Int) (w : World) : Calls Tryz.prog 30 #[.int .i64 n] w fun e w' => e = .returned (dsV n) ∧ w = w' := by
  by_cases h0 : n < 1
  · have d0 : decide (n < 1) = true := decide_eq_true h0
    have e : dsV n = .tuple #[.int .i64 0, .int .i64 0, .bool false] := if_pos (.inl h0)
    rw [e]
    clear e
    go_enter Tryz.func30, Tryz.ntmps30
    go_wp2_with fail
    go_ret3
    exact ⟨rfl, rfl⟩
  · have d0 : decide (n < 1) = false := decide_eq_false h0
    by_cases h1 : 32768 < n
    · have d1 : decide (32768 < n) = true := decide_eq_true h1
      have e : dsV n = .tuple #[.int .i64 0, .int .i64 0, .bool false] := if_pos (.inr h1)
      rw [e]
      clear e
      go_enter Tryz.func30, Tryz.ntmps30
      go_wp2_with fail
      go_ret3
      exact ⟨rfl, rfl⟩
    · have d1 : decide (32768 < n) = false := decide_eq_false h1
      obtain ⟨k, rfl⟩ := Int.eq_ofNat_of_zero_le (show 0 ≤ n by omega)
      have e : dsV (k : Int) = .tuple #[.int .i64 (dsn k : Nat), .int .i64 ((k - dstB (dsn k) : Nat) : Int), .bool true] := if_neg (by omega)
      rw [e]
      have HS := Lib.hid (dsn_sign k (by omega))
      have HL := Lib.hid refDistance_least
      have hk32 : k ≤ 32768 := by omega
      have hb0 : dstB 0 ≤ k := by rw [show dstB 0 = 1 from rfl]; omega
      clear e h0 h1
      go_enter Tryz.func30, Tryz.ntmps30
      go_wp2_with fail
      go_loopw [5, 6, 7, 8, 9] (fun x y _ _ _ wr => ∃ best s : Nat, x = .int .i64 best ∧ y = .int .i64 s ∧ 0 ≤ s ∧ s ≤ 30 ∧ 0 ≤ best ∧ best < 30 ∧ Hid (best ≤ s ∧ dstB best ≤ k ∧ ∀ t, best < t → t < s → k < dstB t) ∧ w = wr) (fun _ y _ _ _ _ => 30 - (intOf y).toNat)
      case atStart => exact ⟨0, 0, rfl, rfl, by omega, by omega, by omega, by omega, Lib.hid ⟨Nat.le_refl _, hb0, fun t h1 h2 => by omega⟩, rfl⟩
      case round =>
        obtain ⟨best, s, rfl, rfl, q1, q2, q3, q4, hq, rfl⟩ := hrel
        by_cases hlt : s < 30
        · have dl : decide ((s : Int) ≤ 29) = true := decide_eq_true (by omega)
          have CF := Lib.hid (HL.out s q1 (by omega) w)
          obtain ⟨B, hB⟩ : ∃ B, dstB s = B := ⟨_, rfl⟩
          rw [hB] at CF
          have HB := Lib.hid hB
          clear hB
          by_cases hBk : B ≤ k
          · have dB : decide ((B : Int) ≤ k) = true := decide_eq_true (by omega)
            go_wp2_with fail
            refine CF.out.mono ?_; rintro e w2 ⟨rfl, rfl⟩
            go_wp2_with fail
            go_roundw
            case rel => exact ⟨s, s + 1, rfl, by go_num, by omega, by omega, by omega, by omega, Lib.hid ⟨by omega, by rw [HB.out]; exact hBk, fun t h1 h2 => by omega⟩, by trivial⟩
            case measure => simp [intOf]; omega
          · have dB : decide ((B : Int) ≤ k) = false := decide_eq_false (by omega)
            go_wp2_with fail
            refine CF.out.mono ?_; rintro e w2 ⟨rfl, rfl⟩
            go_wp2_with fail
            go_roundw
            case rel => exact ⟨best, s + 1, rfl, by go_num, by omega, by omega, by omega, by omega, Lib.hid ⟨by have := hq.out.1; omega, hq.out.2.1, fun t h1 h2 => by
              by_cases e : t = s
              · subst e; rw [HB.out]; omega
              · exact hq.out.2.2 t h1 (by omega)⟩, by trivial⟩
            case measure => simp [intOf]; omega
        · obtain rfl : s = 30 := by omega
          have CF := Lib.hid (HL.out best q3 (by omega) w)
          have hsg : SignOf dstB 0 (0 + 30) k best := ⟨q3, by omega, hq.out.2.1, fun t h1 h2 => hq.out.2.2 t h1 (by omega)⟩
          obtain rfl : best = dsn k := hsg.uniq HS.out
          have hle := hsg.2.2.1
          obtain ⟨B, hB⟩ : ∃ B, dstB (dsn k) = B := ⟨_, rfl⟩
          obtain ⟨q, hqq⟩ : ∃ q, dsn k = q := ⟨_, rfl⟩
          rw [hB] at hle CF
          rw [hqq] at CF ⊢
          have eB : (k : Int) - B = ((k - B : Nat) : Int) := by omega
          have HB3 := Lib.hid hB; have HQ3 := Lib.hid hqq
          clear hsg hqq hB hq
          go_wp2_with fail
          refine CF.out.mono ?_; rintro e w2 ⟨rfl, rfl⟩
          go_wp2_with fail
          go_ret3
          exact ⟨by rw [HB3.out, HQ3.out]; rfl, rfl⟩
end Go.Proofs.YtkjhefjjacokjaaGreat
