/-
  Contracts of inflate's Length and Distance, and of the document's. Conditions: none.
-/
import Derived.Test.YtnnpiblnjflceaaF
import Derived.BigQuiet
import Derived.Deep.LoopGhost
namespace Go.Proofs.Ytnnpiblnjflceaa
open Go.RowKit
set_option maxRecDepth 100000

/-- The least length of a sign, and the bits that are added. -/
def lenOf (s : Nat) : Option (Nat × Nat) :=
  if s < 257 ∨ 285 < s then none else if s = 285 then some (258, 0) else if s < 265 then some (s - 254, 0)
  else some ((4 + (s - 257) % 4) * 2 ^ ((s - 257) / 4 - 1) + 3, (s - 257) / 4 - 1)
/-- The least distance of a sign, and the bits that are added. -/
def dstOf (s : Nat) : Option (Nat × Nat) :=
  if 29 < s then none else if s < 4 then some (s + 1, 0) else some ((2 + s % 2) * 2 ^ (s / 2 - 1) + 1, s / 2 - 1)

/-- What Length and Distance answer. -/
def optV : Option (Nat × Nat) → Value
  | none => .tuple #[.int .i64 0, .int .i64 0, .bool false]
  | some (b, n) => .tuple #[.int .i64 b, .int .i64 n, .bool true]

theorem lenOf_bits (s b n : Nat) (h : lenOf s = some (b, n)) : n ≤ 5 ∧ b ≤ 258 := by
  unfold lenOf at h
  split at h
  · cases h
  · split at h
    · injection h with h; injection h with h1 h2; omega
    · split at h
      · injection h with h; injection h with h1 h2; omega
      · rename_i h1 h2 h3
        injection h with h; injection h with e1 e2
        have : ∀ d, d < 28 → 8 ≤ d → d / 4 - 1 ≤ 5 ∧ (4 + d % 4) * 2 ^ (d / 4 - 1) + 3 ≤ 258 := by decide
        have := this (s - 257) (by omega) (by omega)
        omega
theorem dstOf_bits (s b n : Nat) (h : dstOf s = some (b, n)) : n ≤ 13 ∧ b ≤ 24577 ∧ 1 ≤ b := by
  unfold dstOf at h
  split at h
  · cases h
  · split at h
    · injection h with h; injection h with h1 h2; omega
    · rename_i h1 h2
      injection h with h; injection h with e1 e2
      have : ∀ d, d < 30 → 4 ≤ d → d / 2 - 1 ≤ 13 ∧ (2 + d % 2) * 2 ^ (d / 2 - 1) + 1 ≤ 24577 := by decide
      have := this s (by omega) (by omega)
      omega

theorem length_any (s : Int) (w : World) : Calls Try.prog 24 #[.int .i64 s] w fun e w' => e = .returned (if s < 0 then optV none else optV (lenOf s.toNat)) ∧ w = w' := by
  by_cases h1 : s < 257 ∨ 285 < s
  · have e : (if s < 0 then optV none else optV (lenOf s.toNat)) = optV none := by
      split
      · rfl
      · unfold lenOf; rw [if_pos (by omega)]
    rw [e]
    clear e
    by_cases h2 : s < 257
    · clear h1
      go_enter Try.func24, Try.ntmps24
      go_wp2
      go_ret3
      exact ⟨rfl, rfl⟩
    · have h3 : decide (s < 257) = false := decide_eq_false h2
      have h4 : decide (285 < s) = true := decide_eq_true (h1.resolve_left h2)
      clear h1
      go_enter Try.func24, Try.ntmps24
      go_wp2
      go_ret3
      exact ⟨rfl, rfl⟩
  · have n0 : ¬ s < 0 := by omega
    rw [if_neg n0]
    have h3 : decide (s < 257) = false := decide_eq_false (by omega)
    have h4 : decide (285 < s) = false := decide_eq_false (by omega)
    by_cases h5 : s = 285
    · subst h5
      go_enter Try.func24, Try.ntmps24
      go_wp2
      go_ret3
      exact ⟨rfl, rfl⟩
    · have h6 : (s == 285) = false := by simpa using h5
      by_cases h7 : s < 265
      · have e : lenOf s.toNat = some ((s - 254).toNat, 0) := by
          unfold lenOf; rw [if_neg (by omega), if_neg (by omega), if_pos (by omega)]; congr 2; omega
        rw [e]
        have h8 : decide (s < 265) = true := decide_eq_true h7
        have E : Hid (((s - 254).toNat : Int) = s - 257 + 3) := Lib.hid (by omega)
        clear e
        go_enter Try.func24, Try.ntmps24
        go_wp2
        go_ret3
        refine ⟨?_, rfl⟩
        simp only [optV]
        rw [E.out]
        rfl
      · have h8 : decide (s < 265) = false := decide_eq_false h7
        obtain ⟨d, hd⟩ : ∃ d : Nat, s - 257 = d := ⟨(s - 257).toNat, by omega⟩
        have e : lenOf s.toNat = some ((4 + d % 4) * 2 ^ (d / 4 - 1) + 3, d / 4 - 1) := by
          unfold lenOf; rw [if_neg (by omega), if_neg (by omega), if_neg (by omega)]
          have : s.toNat - 257 = d := by omega
          rw [this]
        rw [e]
        have hd2 : d < 28 := by omega
        have hd3 : 8 ≤ d := by omega
        have hall : ∀ d, d < 28 → 8 ≤ d → d / 4 - 1 ≤ 5 ∧ (4 + d % 4) * 2 ^ (d / 4 - 1) + 3 ≤ 258 := by decide
        have hal := hall d hd2 hd3
        clear hall
        obtain ⟨q, hq⟩ : ∃ q, d / 4 = q := ⟨_, rfl⟩
        obtain ⟨r, hr⟩ : ∃ r, d % 4 = r := ⟨_, rfl⟩
        obtain ⟨k, hk⟩ : ∃ k, q - 1 = k := ⟨_, rfl⟩
        have eq1 : (d : Int).tdiv 4 = q := by rw [Int.tdiv_eq_ediv_of_nonneg (by omega)]; omega
        have eq2 : (d : Int).tmod 4 = r := by rw [Int.tmod_eq_emod_of_nonneg (by omega)]; omega
        have eq3 : (d : Int) / 4 = q := by omega
        have eq4 : (d : Int) % 4 = r := by omega
        have eq5 : (q : Int) - 1 = k := by omega
        rw [hq, hr, hk] at hal ⊢
        have hr4 : r < 4 := by omega
        have EB : Hid ((4 + (r : Int)) * 2 ^ k + 3 = ((4 + r) * 2 ^ k + 3 : Nat)) := Lib.hid (by simp)
        have EW : Hid (wrap64 ((4 + (r : Int)) * 2 ^ k) = (4 + (r : Int)) * 2 ^ k) := Lib.hid (by
          have : ((4 + (r : Int)) * 2 ^ k) = ((4 + r) * 2 ^ k : Nat) := by simp
          rw [this]
          exact IntWalk.wrap64_in _ (by omega))
        have EW2 : Hid (wrap64 ((4 + (r : Int)) * 2 ^ k + 3) = (4 + (r : Int)) * 2 ^ k + 3) := Lib.hid (by
          have : ((4 + (r : Int)) * 2 ^ k + 3) = ((4 + r) * 2 ^ k + 3 : Nat) := by simp
          rw [this]
          exact IntWalk.wrap64_in _ (by omega))
        have hk5 := hal.1
        clear e hq hr hk hal
        go_enter Try.func24, Try.ntmps24
        go_wp2
        go_ret3
        refine ⟨?_, rfl⟩
        simp only [optV]
        rw [EW.out, EW2.out, EB.out]
        rfl

theorem distance_any (s : Int) (w : World) : Calls Try.prog 26 #[.int .i64 s] w fun e w' => e = .returned (if s < 0 then optV none else optV (dstOf s.toNat)) ∧ w = w' := by
  by_cases h1 : s < 0 ∨ 30 ≤ s
  · have e : (if s < 0 then optV none else optV (dstOf s.toNat)) = optV none := by
      split
      · rfl
      · unfold dstOf; rw [if_pos (by omega)]
    rw [e]
    clear e
    by_cases h2 : s < 0
    · clear h1
      go_enter Try.func26, Try.ntmps26
      go_wp2
      go_ret3
      exact ⟨rfl, rfl⟩
    · have h3 : decide (s < 0) = false := decide_eq_false h2
      have h4 : decide (30 ≤ s) = true := decide_eq_true (h1.resolve_left h2)
      clear h1
      go_enter Try.func26, Try.ntmps26
      go_wp2
      go_ret3
      exact ⟨rfl, rfl⟩
  · have n0 : ¬ s < 0 := by omega
    rw [if_neg n0]
    have h3 : decide (s < 0) = false := decide_eq_false (by omega)
    have h4 : decide (30 ≤ s) = false := decide_eq_false (by omega)
    obtain ⟨d, rfl⟩ : ∃ d : Nat, s = d := ⟨s.toNat, by omega⟩
    by_cases h7 : d < 4
    · have e : dstOf ((d : Int).toNat) = some (d + 1, 0) := by
        unfold dstOf; rw [if_neg (by omega), if_pos (by omega)]; simp
      rw [e]
      have h8 : decide ((d : Int) < 4) = true := decide_eq_true (by omega)
      clear e
      go_enter Try.func26, Try.ntmps26
      go_wp2
      go_ret3
      exact ⟨rfl, rfl⟩
    · have h8 : decide ((d : Int) < 4) = false := decide_eq_false (by omega)
      have e : dstOf ((d : Int).toNat) = some ((2 + d % 2) * 2 ^ (d / 2 - 1) + 1, d / 2 - 1) := by
        unfold dstOf; rw [if_neg (by omega), if_neg (by omega)]; simp
      rw [e]
      have hall : ∀ d, d < 30 → 4 ≤ d → d / 2 - 1 ≤ 13 ∧ (2 + d % 2) * 2 ^ (d / 2 - 1) + 1 ≤ 24577 := by decide
      have hal := hall d (by omega) (by omega)
      clear hall
      obtain ⟨q, hq⟩ : ∃ q, d / 2 = q := ⟨_, rfl⟩
      obtain ⟨r, hr⟩ : ∃ r, d % 2 = r := ⟨_, rfl⟩
      obtain ⟨k, hk⟩ : ∃ k, q - 1 = k := ⟨_, rfl⟩
      have eq1 : (d : Int).tdiv 2 = q := by rw [Int.tdiv_eq_ediv_of_nonneg (by omega)]; omega
      have eq2 : (d : Int).tmod 2 = r := by rw [Int.tmod_eq_emod_of_nonneg (by omega)]; omega
      have eq3 : (d : Int) / 2 = q := by omega
      have eq4 : (d : Int) % 2 = r := by omega
      have eq5 : (q : Int) - 1 = k := by omega
      rw [hq, hr, hk] at hal ⊢
      have hr4 : r < 2 := by omega
      have EB : Hid ((2 + (r : Int)) * 2 ^ k + 1 = ((2 + r) * 2 ^ k + 1 : Nat)) := Lib.hid (by simp)
      have EW : Hid (wrap64 ((2 + (r : Int)) * 2 ^ k) = (2 + (r : Int)) * 2 ^ k) := Lib.hid (by
        have : ((2 + (r : Int)) * 2 ^ k) = ((2 + r) * 2 ^ k : Nat) := by simp
        rw [this]
        exact IntWalk.wrap64_in _ (by omega))
      have EW2 : Hid (wrap64 ((2 + (r : Int)) * 2 ^ k + 1) = (2 + (r : Int)) * 2 ^ k + 1) := Lib.hid (by
        have : ((2 + (r : Int)) * 2 ^ k + 1) = ((2 + r) * 2 ^ k + 1 : Nat) := by simp
        rw [this]
        exact IntWalk.wrap64_in _ (by omega))
      have hk5 := hal.1
      clear e hq hr hk hal
      go_enter Try.func26, Try.ntmps26
      go_wp2
      go_ret3
      refine ⟨?_, rfl⟩
      simp only [optV]
      rw [EW.out, EW2.out, EB.out]
      rfl

/-- Bits that are added to a length's sign, to a distance's. -/
def mrb (s : Nat) : Nat := if s < 265 then 0 else (s - 265) / 4 + 1
def frb (s : Nat) : Nat := if s < 4 then 0 else s / 2 - 1
/-- The least length of the sign 257 + d, the least distance of the sign d. -/
def lbase : Nat → Nat
  | 0 => 3
  | d + 1 => lbase d + 2 ^ mrb (257 + d)
def dbase : Nat → Nat
  | 0 => 1
  | d + 1 => dbase d + 2 ^ frb d
theorem lenOf_base : ∀ d, d < 28 → lenOf (257 + d) = some (lbase d, mrb (257 + d)) ∧ lbase d ≤ 258 ∧ mrb (257 + d) ≤ 5 := by decide
theorem dstOf_base : ∀ d, d < 30 → dstOf d = some (dbase d, frb d) ∧ dbase d ≤ 24577 ∧ frb d ≤ 13 := by decide
theorem pow13 {k : Nat} (h : k ≤ 13) : 2 ^ k ≤ 8192 := Nat.pow_le_pow_right (n := 2) (i := k) (j := 13) (by omega) h

theorem more_call (s : Nat) (hs : s ≤ 1000) (w : World) : Calls Try.prog 44 #[.int .i64 s] w fun e w' => e = .returned (.int .i64 (mrb s : Nat)) ∧ w' = w := by
  by_cases h : s < 265
  · have e : mrb s = 0 := if_pos h
    rw [e]
    have d : decide ((s : Int) < 265) = true := decide_eq_true (by omega)
    clear e
    go_enter Try.func44, Try.ntmps44
    go_wp2
    go_ret
    exact ⟨rfl, rfl⟩
  · obtain ⟨d, rfl⟩ : ∃ d, s = 265 + d := ⟨s - 265, by omega⟩
    have e : mrb (265 + d) = d / 4 + 1 := by unfold mrb; rw [if_neg h]; congr 2; omega
    rw [e]
    obtain ⟨q, hq⟩ : ∃ q, d / 4 = q := ⟨_, rfl⟩
    have w1 : ((265 + d : Nat) : Int) - 265 = d := by omega
    have w2 : (d : Int).tdiv 4 = q := by rw [Int.tdiv_eq_ediv_of_nonneg (by omega)]; omega
    have w3 : (d : Int) / 4 = q := by omega
    have dd : decide (((265 + d : Nat) : Int) < 265) = false := decide_eq_false (by omega)
    obtain ⟨t, ht⟩ : ∃ t, 265 + d = t := ⟨_, rfl⟩
    rw [ht] at w1 dd ⊢
    have E : Hid ((q : Int) + 1 = (d / 4 + 1 : Nat)) := Lib.hid (by omega)
    have hq2 : q ≤ 1000 := by omega
    clear h e hq
    go_enter Try.func44, Try.ntmps44
    go_wp2
    go_ret
    exact ⟨ret_int E.out, rfl⟩
theorem far_call (s : Nat) (hs : s ≤ 1000) (w : World) : Calls Try.prog 45 #[.int .i64 s] w fun e w' => e = .returned (.int .i64 (frb s : Nat)) ∧ w' = w := by
  by_cases h : s < 4
  · have e : frb s = 0 := if_pos h
    rw [e]
    have d : decide ((s : Int) < 4) = true := decide_eq_true (by omega)
    clear e
    go_enter Try.func45, Try.ntmps45
    go_wp2
    go_ret
    exact ⟨rfl, rfl⟩
  · have e : frb s = s / 2 - 1 := if_neg h
    rw [e]
    obtain ⟨q, hq⟩ : ∃ q, s / 2 = q := ⟨_, rfl⟩
    have w2 : (s : Int).tdiv 2 = q := by rw [Int.tdiv_eq_ediv_of_nonneg (by omega)]; omega
    have w3 : (s : Int) / 2 = q := by omega
    have dd : decide ((s : Int) < 4) = false := decide_eq_false (by omega)
    have E : Hid ((q : Int) - 1 = (s / 2 - 1 : Nat)) := Lib.hid (by omega)
    have hq2 : q ≤ 1000 := by omega
    have hq1 : 2 ≤ q := by omega
    clear h e hq
    go_enter Try.func45, Try.ntmps45
    go_wp2
    go_ret
    exact ⟨ret_int E.out, rfl⟩

set_option maxHeartbeats 1000000 in
theorem refLength_in (d : Nat) (hd : d < 28) (w : World) : Calls Try.prog 25 #[.int .i64 (257 + d : Nat)] w fun e w' => e = .returned (optV (lenOf (257 + d))) ∧ w' = w := by
  have hB := lenOf_base d hd
  rw [hB.1]
  have HB : Hid (∀ k, k ≤ d → lbase k ≤ 258 ∧ mrb (257 + k) ≤ 5) := Lib.hid (fun k hk => (lenOf_base k (by omega)).2)
  obtain ⟨s, hs⟩ : ∃ s, 257 + d = s := ⟨_, rfl⟩
  rw [hs]
  have s1 : 257 ≤ s := by omega
  have s2 : s < 285 := by omega
  have HS := Lib.hid hs
  have CM := Lib.hid (fun k hk W => more_call k hk W)
  have g1 : decide ((s : Int) < 257) = false := decide_eq_false (by omega)
  have g2 : decide (285 < (s : Int)) = false := decide_eq_false (by omega)
  have g3 : ((s : Int) == 285) = false := by simp; omega
  have g4 : ¬ (s : Int) = 285 := by omega
  clear hs hB
  go_enter Try.func25, Try.ntmps25
  go_wp2_with fail
  go_loop [5, 6, 7, 8] (fun ba ss _ _ => ∃ k : Nat, k ≤ d ∧ ss = .int .i64 (257 + k : Nat) ∧ ba = .int .i64 (lbase k : Nat)) (fun _ ss _ _ => s - (intOf ss).toNat)
  case atStart => exact ⟨0, by omega, rfl, rfl⟩
  case round =>
    obtain ⟨k, hk, rfl, rfl⟩ := hrel
    have hbk := HB.out k hk
    obtain ⟨bb, hbb⟩ : ∃ bb, lbase k = bb := ⟨_, rfl⟩
    rw [hbb] at hbk ⊢
    obtain ⟨t, ht⟩ : ∃ t, 257 + k = t := ⟨_, rfl⟩
    rw [ht] at hbk ⊢
    obtain ⟨m, hm⟩ : ∃ m, mrb t = m := ⟨_, rfl⟩
    rw [hm] at hbk
    have HBB : Hid (lbase (k + 1) = bb + 2 ^ m) := Lib.hid (by rw [lbase, hbb, ht, hm])
    have HM := Lib.hid hm
    have HT := Lib.hid ht
    have HB0 := Lib.hid hbb
    have CMt : Hid (∀ W, Calls Try.prog 44 #[.int .i64 t] W fun e w' => e = .returned (.int .i64 (m : Nat)) ∧ w' = W) := Lib.hid (fun W => by rw [← HM.out]; exact CM.out t (by omega) W)
    by_cases hlt : k < d
    · have hts : decide (t < s) = true := decide_eq_true (by have := HS.out; omega)
      have hts2 : t < s := by have := HS.out; omega
      clear hm hbb ht
      go_wp2_with fail
      go_loop [7, 8] (fun st i => ∃ j : Nat, j ≤ m ∧ i = .int .i64 j ∧ st = .int .i64 (2 ^ j : Nat)) (fun _ i => m - (intOf i).toNat)
      case atStart => exact ⟨0, by omega, rfl, rfl⟩
      case round =>
        obtain ⟨j, hj, rfl, rfl⟩ := hrel
        have hp := pow13 (show j ≤ 13 by omega)
        have EP : Hid (((2 ^ j : Nat) : Int) * 2 = ((2 ^ (j + 1) : Nat) : Int)) := Lib.hid (by rw [Nat.pow_succ]; omega)
        obtain ⟨P, hP⟩ : ∃ P, 2 ^ j = P := ⟨_, rfl⟩
        rw [hP] at hp EP ⊢
        have HP := Lib.hid hP; clear hP
        by_cases hjm : j < m
        · have djm : decide (j < m) = true := decide_eq_true hjm
          go_wp2_with fail
          refine (CMt.out _).mono ?_; rintro e w1 ⟨rfl, rfl⟩
          go_wp2_with fail
          go_round
          case rel => exact ⟨j + 1, by omega, by go_num, by rw [← EP.out]⟩
          case measure => simp [intOf]; omega
        · obtain rfl : j = m := by omega
          have djm : decide (j < j) = false := decide_eq_false (by omega)
          go_wp2_with fail
          refine (CMt.out _).mono ?_; rintro e w1 ⟨rfl, rfl⟩
          go_wp2_with fail
          go_round
          case rel => exact ⟨k + 1, by omega, by have := HT.out; rw [show 257 + (k + 1) = t + 1 by omega]; go_num, by rw [HBB.out, HP.out]; go_num⟩
          case measure => simp [intOf]; omega
    · obtain rfl : k = d := by omega
      have hts : t = s := by have := HS.out; omega
      subst hts
      clear hm hbb ht hlt
      have dts : decide (t < t) = false := decide_eq_false (by omega)
      go_wp2_with fail
      refine (CMt.out _).mono ?_; rintro e w1 ⟨rfl, rfl⟩
      go_wp2_with fail
      go_ret3
      refine ⟨?_, rfl⟩
      simp only [optV]
      first
        | rw [HB0.out, HM.out]
        | rw [HB0.out, HT.out, HM.out]
      rfl

set_option maxHeartbeats 1000000 in
theorem refDistance_in (d : Nat) (hd : d < 30) (w : World) : Calls Try.prog 27 #[.int .i64 (d : Nat)] w fun e w' => e = .returned (optV (dstOf (d))) ∧ w' = w := by
  have hB := dstOf_base d hd
  rw [hB.1]
  have HB : Hid (∀ k, k ≤ d → dbase k ≤ 24577 ∧ frb (k) ≤ 13) := Lib.hid (fun k hk => (dstOf_base k (by omega)).2)
  obtain ⟨s, hs⟩ : ∃ s, d = s := ⟨_, rfl⟩
  rw [show (.int .i64 (d : Nat) : Value) = .int .i64 (s : Nat) by rw [hs]]
  have s1 : 0 ≤ s := by omega
  have s2 : s < 30 := by omega
  have HS := Lib.hid hs
  have CM := Lib.hid (fun k hk W => far_call k hk W)
  have g1 : decide ((s : Int) < 0) = false := decide_eq_false (by omega)
  have g2 : decide (29 < (s : Int)) = false := decide_eq_false (by omega)
  clear hs hB
  go_enter Try.func27, Try.ntmps27
  go_wp2_with fail
  go_loop [5, 6, 7, 8] (fun ba ss _ _ => ∃ k : Nat, k ≤ d ∧ ss = .int .i64 (k : Nat) ∧ ba = .int .i64 (dbase k : Nat)) (fun _ ss _ _ => s - (intOf ss).toNat)
  case atStart => exact ⟨0, by omega, rfl, rfl⟩
  case round =>
    obtain ⟨k, hk, rfl, rfl⟩ := hrel
    have hbk := HB.out k hk
    obtain ⟨bb, hbb⟩ : ∃ bb, dbase k = bb := ⟨_, rfl⟩
    rw [hbb] at hbk ⊢
    obtain ⟨t, ht⟩ : ∃ t, k = t := ⟨_, rfl⟩
    rw [ht] at hbk ⊢
    obtain ⟨m, hm⟩ : ∃ m, frb t = m := ⟨_, rfl⟩
    rw [hm] at hbk
    have HBB : Hid (dbase (k + 1) = bb + 2 ^ m) := Lib.hid (by rw [dbase, hbb, ht, hm])
    have HM := Lib.hid hm
    have HT := Lib.hid ht
    have HB0 := Lib.hid hbb
    have CMt : Hid (∀ W, Calls Try.prog 45 #[.int .i64 t] W fun e w' => e = .returned (.int .i64 (m : Nat)) ∧ w' = W) := Lib.hid (fun W => by rw [← HM.out]; exact CM.out t (by omega) W)
    by_cases hlt : k < d
    · have hts : decide (t < s) = true := decide_eq_true (by have := HS.out; omega)
      have hts2 : t < s := by have := HS.out; omega
      clear hm hbb ht
      go_wp2_with fail
      go_loop [7, 8] (fun st i => ∃ j : Nat, j ≤ m ∧ i = .int .i64 j ∧ st = .int .i64 (2 ^ j : Nat)) (fun _ i => m - (intOf i).toNat)
      case atStart => exact ⟨0, by omega, rfl, rfl⟩
      case round =>
        obtain ⟨j, hj, rfl, rfl⟩ := hrel
        have hp := pow13 (show j ≤ 13 by omega)
        have EP : Hid (((2 ^ j : Nat) : Int) * 2 = ((2 ^ (j + 1) : Nat) : Int)) := Lib.hid (by rw [Nat.pow_succ]; omega)
        obtain ⟨P, hP⟩ : ∃ P, 2 ^ j = P := ⟨_, rfl⟩
        rw [hP] at hp EP ⊢
        have HP := Lib.hid hP; clear hP
        by_cases hjm : j < m
        · have djm : decide (j < m) = true := decide_eq_true hjm
          go_wp2_with fail
          refine (CMt.out _).mono ?_; rintro e w1 ⟨rfl, rfl⟩
          go_wp2_with fail
          go_round
          case rel => exact ⟨j + 1, by omega, by go_num, by rw [← EP.out]⟩
          case measure => simp [intOf]; omega
        · obtain rfl : j = m := by omega
          have djm : decide (j < j) = false := decide_eq_false (by omega)
          go_wp2_with fail
          refine (CMt.out _).mono ?_; rintro e w1 ⟨rfl, rfl⟩
          go_wp2_with fail
          go_round
          case rel => exact ⟨k + 1, by omega, by have := HT.out; rw [show k + 1 = t + 1 by omega]; go_num, by rw [HBB.out, HP.out]; go_num⟩
          case measure => simp [intOf]; omega
    · obtain rfl : k = d := by omega
      have hts : t = s := by have := HS.out; omega
      subst hts
      clear hm hbb ht hlt
      have dts : decide (t < t) = false := decide_eq_false (by omega)
      go_wp2_with fail
      refine (CMt.out _).mono ?_; rintro e w1 ⟨rfl, rfl⟩
      go_wp2_with fail
      go_ret3
      refine ⟨?_, rfl⟩
      simp only [optV]
      first
        | rw [HB0.out, HM.out]
        | rw [HB0.out, HT.out, HM.out]
      rfl

theorem refLength_any (s : Int) (w : World) : Calls Try.prog 25 #[.int .i64 s] w fun e w' => e = .returned (if s < 0 then optV none else optV (lenOf s.toNat)) ∧ w' = w := by
  by_cases h1 : s < 257 ∨ 285 < s
  · have e : (if s < 0 then optV none else optV (lenOf s.toNat)) = optV none := by
      split
      · rfl
      · unfold lenOf; rw [if_pos (by omega)]
    rw [e]
    clear e
    by_cases h2 : s < 257
    · clear h1
      go_enter Try.func25, Try.ntmps25
      go_wp2
      go_ret3
      exact ⟨rfl, rfl⟩
    · have h3 : decide (s < 257) = false := decide_eq_false h2
      have h4 : decide (285 < s) = true := decide_eq_true (h1.resolve_left h2)
      clear h1
      go_enter Try.func25, Try.ntmps25
      go_wp2
      go_ret3
      exact ⟨rfl, rfl⟩
  · by_cases h5 : s = 285
    · subst h5
      go_enter Try.func25, Try.ntmps25
      go_wp2
      go_ret3
      exact ⟨rfl, rfl⟩
    · obtain ⟨d, rfl⟩ : ∃ d : Nat, s = ((257 + d : Nat) : Int) := ⟨(s - 257).toNat, by omega⟩
      rw [if_neg (by omega)]
      exact refLength_in d (by omega) w
theorem refDistance_any (s : Int) (w : World) : Calls Try.prog 27 #[.int .i64 s] w fun e w' => e = .returned (if s < 0 then optV none else optV (dstOf s.toNat)) ∧ w' = w := by
  by_cases h1 : s < 0 ∨ 29 < s
  · have e : (if s < 0 then optV none else optV (dstOf s.toNat)) = optV none := by
      split
      · rfl
      · unfold dstOf; rw [if_pos (by omega)]
    rw [e]
    clear e
    by_cases h2 : s < 0
    · clear h1
      go_enter Try.func27, Try.ntmps27
      go_wp2
      go_ret3
      exact ⟨rfl, rfl⟩
    · have h3 : decide (s < 0) = false := decide_eq_false h2
      have h4 : decide (29 < s) = true := decide_eq_true (h1.resolve_left h2)
      clear h1
      go_enter Try.func27, Try.ntmps27
      go_wp2
      go_ret3
      exact ⟨rfl, rfl⟩
  · obtain ⟨d, rfl⟩ : ∃ d : Nat, s = (d : Int) := ⟨s.toNat, by omega⟩
    rw [if_neg (by omega)]
    exact refDistance_in d (by omega) w

end Go.Proofs.Ytnnpiblnjflceaa
