/-
  Contracts of LengthSign and DistanceSign, in the program and in the document. Conditions: none.
-/
import Derived.Test.YtnnpiblnjflceaaLS
namespace Go.Proofs.Ytnnpiblnjflceaa
open Go.RowKit
set_option maxRecDepth 100000

/-- The answer, and nothing that was there has changed. -/
def Gives (w : World) (v : Value) (e : Ending) (w' : World) : Prop := e = .returned v ∧ Below w.heap.size w w'

/-- What LengthSign, DistanceSign answer. -/
def lsV (n : Int) : Value := if n < 3 ∨ 258 < n then .tuple #[.int .i64 0, .int .i64 0, .bool false] else .tuple #[.int .i64 (lsn n.toNat : Nat), .int .i64 ((n.toNat - lenB (lsn n.toNat) : Nat) : Int), .bool true]
def dsV (n : Int) : Value := if n < 1 ∨ 32768 < n then .tuple #[.int .i64 0, .int .i64 0, .bool false] else .tuple #[.int .i64 (dsn n.toNat : Nat), .int .i64 ((n.toNat - dstB (dsn n.toNat) : Nat) : Int), .bool true]

theorem lsn_sign (n : Nat) (h : 3 ≤ n) : SignOf lenB 257 (257 + 29) n (lsn n) := great_sign lenB 257 n (by rw [show lenB 257 = 3 from rfl]; exact h) 28
theorem dsn_sign (n : Nat) (h : 1 ≤ n) : SignOf dstB 0 (0 + 30) n (dsn n) := great_sign dstB 0 n (by rw [show dstB 0 = 1 from rfl]; exact h) 29

theorem lenB_all (s : Nat) : lenB s ≤ 100000 := by
  unfold lenB
  cases h : lenOf s with
  | none => simp
  | some p => obtain ⟨b, m⟩ := p; have := lenOf_bits s b m h; simp only; omega
theorem dstB_all (s : Nat) : dstB s ≤ 100000 := by
  unfold dstB
  cases h : dstOf s with
  | none => simp
  | some p => obtain ⟨b, m⟩ := p; have := dstOf_bits s b m h; simp only; omega

theorem lengthSign_any (n : Int) (w : World) : Calls Try.prog 7 #[.int .i64 n] w (Gives w (lsV n)) := by
  by_cases h0 : n < 3
  · have d0 : decide (n < 3) = true := decide_eq_true h0
    have e : lsV n = .tuple #[.int .i64 0, .int .i64 0, .bool false] := if_pos (.inl h0)
    rw [e]
    clear e
    go_enter Try.func7, Try.ntmps7
    go_wp2_with fail
    go_ret3
    exact ⟨rfl, Below.refl _ _⟩
  · have d0 : decide (n < 3) = false := decide_eq_false h0
    by_cases h1 : 258 < n
    · have d1 : decide (258 < n) = true := decide_eq_true h1
      have e : lsV n = .tuple #[.int .i64 0, .int .i64 0, .bool false] := if_pos (.inr h1)
      rw [e]
      clear e
      go_enter Try.func7, Try.ntmps7
      go_wp2_with fail
      go_ret3
      exact ⟨rfl, Below.refl _ _⟩
    · have d1 : decide (258 < n) = false := decide_eq_false h1
      obtain ⟨k, rfl⟩ := Int.eq_ofNat_of_zero_le (show 0 ≤ n by omega)
      have e : lsV (k : Int) = .tuple #[.int .i64 (lsn k : Nat), .int .i64 ((k - lenB (lsn k) : Nat) : Int), .bool true] := if_neg (by omega)
      rw [e]
      have HS := Lib.hid (lsn_sign k (by omega))
      have CG := Lib.hid (fun W => greatest_any 24 (by simp) lenB lenM 257 29 (by omega) (by omega) (by omega) length_least lenB_all (fun s t h1 h2 h3 => lenB_mono h1 h2 (by omega)) k (by omega) (by rw [show lenB 257 = 3 from rfl]; omega) 286 rfl W)
      clear e h0 h1
      go_enter Try.func7, Try.ntmps7
      go_wp2_with fail
      refine (CG.out _).mono ?_; rintro e w2 ⟨s, rfl, hs, hb⟩
      have B2 := Lib.hid hb
      obtain rfl : s = lsn k := hs.uniq HS.out
      obtain ⟨B, hB⟩ : ∃ B, k - lenB (lsn k) = B := ⟨_, rfl⟩
      obtain ⟨q, hq⟩ : ∃ q, lsn k = q := ⟨_, rfl⟩
      rw [hB, hq]
      have HB3 := Lib.hid hB; have HQ3 := Lib.hid hq
      clear hb hs hB hq
      go_wp2_with fail
      go_ret3
      exact ⟨by rw [HB3.out, HQ3.out]; rfl, B2.out⟩

theorem distanceSign_any (n : Int) (w : World) : Calls Try.prog 9 #[.int .i64 n] w (Gives w (dsV n)) := by
  by_cases h0 : n < 1
  · have d0 : decide (n < 1) = true := decide_eq_true h0
    have e : dsV n = .tuple #[.int .i64 0, .int .i64 0, .bool false] := if_pos (.inl h0)
    rw [e]
    clear e
    go_enter Try.func9, Try.ntmps9
    go_wp2_with fail
    go_ret3
    exact ⟨rfl, Below.refl _ _⟩
  · have d0 : decide (n < 1) = false := decide_eq_false h0
    by_cases h1 : 32768 < n
    · have d1 : decide (32768 < n) = true := decide_eq_true h1
      have e : dsV n = .tuple #[.int .i64 0, .int .i64 0, .bool false] := if_pos (.inr h1)
      rw [e]
      clear e
      go_enter Try.func9, Try.ntmps9
      go_wp2_with fail
      go_ret3
      exact ⟨rfl, Below.refl _ _⟩
    · have d1 : decide (32768 < n) = false := decide_eq_false h1
      obtain ⟨k, rfl⟩ := Int.eq_ofNat_of_zero_le (show 0 ≤ n by omega)
      have e : dsV (k : Int) = .tuple #[.int .i64 (dsn k : Nat), .int .i64 ((k - dstB (dsn k) : Nat) : Int), .bool true] := if_neg (by omega)
      rw [e]
      have HS := Lib.hid (dsn_sign k (by omega))
      have CG := Lib.hid (fun W => greatest_any 26 (by simp) dstB dstM 0 30 (by omega) (by omega) (by omega) distance_least dstB_all (fun s t _ h2 h3 => dstB_mono h2 (by omega)) k (by omega) (by rw [show dstB 0 = 1 from rfl]; omega) 30 rfl W)
      clear e h0 h1
      go_enter Try.func9, Try.ntmps9
      go_wp2_with fail
      refine (CG.out _).mono ?_; rintro e w2 ⟨s, rfl, hs, hb⟩
      have B2 := Lib.hid hb
      obtain rfl : s = dsn k := hs.uniq HS.out
      obtain ⟨B, hB⟩ : ∃ B, k - dstB (dsn k) = B := ⟨_, rfl⟩
      obtain ⟨q, hq⟩ : ∃ q, dsn k = q := ⟨_, rfl⟩
      rw [hB, hq]
      have HB3 := Lib.hid hB; have HQ3 := Lib.hid hq
      clear hb hs hB hq
      go_wp2_with fail
      go_ret3
      exact ⟨by rw [HB3.out, HQ3.out]; rfl, B2.out⟩

set_option maxHeartbeats 1000000 in
theorem refLengthSign_any (n : Int) (w : World) : Calls Try.prog 8 #[.int .i64 n] w fun e w' => e = .returned (lsV n) ∧ w = w' := by
  by_cases h0 : n < 3
  · have d0 : decide (n < 3) = true := decide_eq_true h0
    have e : lsV n = .tuple #[.int .i64 0, .int .i64 0, .bool false] := if_pos (.inl h0)
    rw [e]
    clear e
    go_enter Try.func8, Try.ntmps8
    go_wp2_with fail
    go_ret3
    exact ⟨rfl, rfl⟩
  · have d0 : decide (n < 3) = false := decide_eq_false h0
    by_cases h1 : 258 < n
    · have d1 : decide (258 < n) = true := decide_eq_true h1
      have e : lsV n = .tuple #[.int .i64 0, .int .i64 0, .bool false] := if_pos (.inr h1)
      rw [e]
      clear e
      go_enter Try.func8, Try.ntmps8
      go_wp2_with fail
      go_ret3
      exact ⟨rfl, rfl⟩
    · have d1 : decide (258 < n) = false := decide_eq_false h1
      obtain ⟨k, rfl⟩ := Int.eq_ofNat_of_zero_le (show 0 ≤ n by omega)
      have e : lsV (k : Int) = .tuple #[.int .i64 (lsn k : Nat), .int .i64 ((k - lenB (lsn k) : Nat) : Int), .bool true] := if_neg (by omega)
      rw [e]
      have HS := Lib.hid (lsn_sign k (by omega))
      have HL := Lib.hid refLength_least
      have hk32 : k ≤ 32768 := by omega
      have hb0 : lenB 257 ≤ k := by rw [show lenB 257 = 3 from rfl]; omega
      clear e h0 h1
      go_enter Try.func8, Try.ntmps8
      go_wp2_with fail
      go_loopw [5, 6, 7, 8, 9] (fun x y _ _ _ wr => ∃ best s : Nat, x = .int .i64 best ∧ y = .int .i64 s ∧ 257 ≤ s ∧ s ≤ 286 ∧ 257 ≤ best ∧ best < 286 ∧ Hid (best ≤ s ∧ lenB best ≤ k ∧ ∀ t, best < t → t < s → k < lenB t) ∧ w = wr) (fun _ y _ _ _ _ => 286 - (intOf y).toNat)
      case atStart => exact ⟨257, 257, rfl, rfl, by omega, by omega, by omega, by omega, Lib.hid ⟨Nat.le_refl _, hb0, fun t h1 h2 => by omega⟩, rfl⟩
      case round =>
        obtain ⟨best, s, rfl, rfl, q1, q2, q3, q4, hq, rfl⟩ := hrel
        by_cases hlt : s < 286
        · have dl : decide ((s : Int) ≤ 285) = true := decide_eq_true (by omega)
          have CF := Lib.hid (HL.out s q1 (by omega) w)
          obtain ⟨B, hB⟩ : ∃ B, lenB s = B := ⟨_, rfl⟩
          rw [hB] at CF
          have HB := Lib.hid hB
          clear hB
          by_cases hBk : B ≤ k
          · have dB : decide ((B : Int) ≤ k) = true := decide_eq_true (by omega)
            go_wp2_with fail
            refine CF.out.mono ?_; rintro e w2 ⟨rfl, rfl⟩
            go_wp2_with fail
            go_roundw
            case rel => exact ⟨s, s + 1, rfl, by go_num, by omega, by omega, by omega, by omega, Lib.hid ⟨by omega, by rw [HB.out]; exact hBk, fun t h1 h2 => by omega⟩, by trivial⟩
            case measure => simp [intOf]; omega
          · have dB : decide ((B : Int) ≤ k) = false := decide_eq_false (by omega)
            go_wp2_with fail
            refine CF.out.mono ?_; rintro e w2 ⟨rfl, rfl⟩
            go_wp2_with fail
            go_roundw
            case rel => exact ⟨best, s + 1, rfl, by go_num, by omega, by omega, by omega, by omega, Lib.hid ⟨by have := hq.out.1; omega, hq.out.2.1, fun t h1 h2 => by
              by_cases e : t = s
              · subst e; rw [HB.out]; omega
              · exact hq.out.2.2 t h1 (by omega)⟩, by trivial⟩
            case measure => simp [intOf]; omega
        · obtain rfl : s = 286 := by omega
          have CF := Lib.hid (HL.out best q3 (by omega) w)
          have hsg : SignOf lenB 257 (257 + 29) k best := ⟨q3, by omega, hq.out.2.1, fun t h1 h2 => hq.out.2.2 t h1 (by omega)⟩
          obtain rfl : best = lsn k := hsg.uniq HS.out
          have hle := hsg.2.2.1
          obtain ⟨B, hB⟩ : ∃ B, lenB (lsn k) = B := ⟨_, rfl⟩
          obtain ⟨q, hqq⟩ : ∃ q, lsn k = q := ⟨_, rfl⟩
          rw [hB] at hle CF
          rw [hqq] at CF ⊢
          have eB : (k : Int) - B = ((k - B : Nat) : Int) := by omega
          have HB3 := Lib.hid hB; have HQ3 := Lib.hid hqq
          clear hsg hqq hB hq
          go_wp2_with fail
          refine CF.out.mono ?_; rintro e w2 ⟨rfl, rfl⟩
          go_wp2_with fail
          go_ret3
          exact ⟨by rw [HB3.out, HQ3.out]; rfl, rfl⟩

set_option maxHeartbeats 1000000 in
theorem refDistanceSign_any (n : Int) (w : World) : Calls Try.prog 10 #[.int .i64 n] w fun e w' => e = .returned (dsV n) ∧ w = w' := by
  by_cases h0 : n < 1
  · have d0 : decide (n < 1) = true := decide_eq_true h0
    have e : dsV n = .tuple #[.int .i64 0, .int .i64 0, .bool false] := if_pos (.inl h0)
    rw [e]
    clear e
    go_enter Try.func10, Try.ntmps10
    go_wp2_with fail
    go_ret3
    exact ⟨rfl, rfl⟩
  · have d0 : decide (n < 1) = false := decide_eq_false h0
    by_cases h1 : 32768 < n
    · have d1 : decide (32768 < n) = true := decide_eq_true h1
      have e : dsV n = .tuple #[.int .i64 0, .int .i64 0, .bool false] := if_pos (.inr h1)
      rw [e]
      clear e
      go_enter Try.func10, Try.ntmps10
      go_wp2_with fail
      go_ret3
      exact ⟨rfl, rfl⟩
    · have d1 : decide (32768 < n) = false := decide_eq_false h1
      obtain ⟨k, rfl⟩ := Int.eq_ofNat_of_zero_le (show 0 ≤ n by omega)
      have e : dsV (k : Int) = .tuple #[.int .i64 (dsn k : Nat), .int .i64 ((k - dstB (dsn k) : Nat) : Int), .bool true] := if_neg (by omega)
      rw [e]
      have HS := Lib.hid (dsn_sign k (by omega))
      have HL := Lib.hid refDistance_least
      have hk32 : k ≤ 32768 := by omega
      have hb0 : dstB 0 ≤ k := by rw [show dstB 0 = 1 from rfl]; omega
      clear e h0 h1
      go_enter Try.func10, Try.ntmps10
      go_wp2_with fail
      go_loopw [5, 6, 7, 8, 9] (fun x y _ _ _ wr => ∃ best s : Nat, x = .int .i64 best ∧ y = .int .i64 s ∧ 0 ≤ s ∧ s ≤ 30 ∧ 0 ≤ best ∧ best < 30 ∧ Hid (best ≤ s ∧ dstB best ≤ k ∧ ∀ t, best < t → t < s → k < dstB t) ∧ w = wr) (fun _ y _ _ _ _ => 30 - (intOf y).toNat)
      case atStart => exact ⟨0, 0, rfl, rfl, by omega, by omega, by omega, by omega, Lib.hid ⟨Nat.le_refl _, hb0, fun t h1 h2 => by omega⟩, rfl⟩
      case round =>
        obtain ⟨best, s, rfl, rfl, q1, q2, q3, q4, hq, rfl⟩ := hrel
        by_cases hlt : s < 30
        · have dl : decide ((s : Int) ≤ 29) = true := decide_eq_true (by omega)
          have CF := Lib.hid (HL.out s q1 (by omega) w)
          obtain ⟨B, hB⟩ : ∃ B, dstB s = B := ⟨_, rfl⟩
          rw [hB] at CF
          have HB := Lib.hid hB
          clear hB
          by_cases hBk : B ≤ k
          · have dB : decide ((B : Int) ≤ k) = true := decide_eq_true (by omega)
            go_wp2_with fail
            refine CF.out.mono ?_; rintro e w2 ⟨rfl, rfl⟩
            go_wp2_with fail
            go_roundw
            case rel => exact ⟨s, s + 1, rfl, by go_num, by omega, by omega, by omega, by omega, Lib.hid ⟨by omega, by rw [HB.out]; exact hBk, fun t h1 h2 => by omega⟩, by trivial⟩
            case measure => simp [intOf]; omega
          · have dB : decide ((B : Int) ≤ k) = false := decide_eq_false (by omega)
            go_wp2_with fail
            refine CF.out.mono ?_; rintro e w2 ⟨rfl, rfl⟩
            go_wp2_with fail
            go_roundw
            case rel => exact ⟨best, s + 1, rfl, by go_num, by omega, by omega, by omega, by omega, Lib.hid ⟨by have := hq.out.1; omega, hq.out.2.1, fun t h1 h2 => by
              by_cases e : t = s
              · subst e; rw [HB.out]; omega
              · exact hq.out.2.2 t h1 (by omega)⟩, by trivial⟩
            case measure => simp [intOf]; omega
        · obtain rfl : s = 30 := by omega
          have CF := Lib.hid (HL.out best q3 (by omega) w)
          have hsg : SignOf dstB 0 (0 + 30) k best := ⟨q3, by omega, hq.out.2.1, fun t h1 h2 => hq.out.2.2 t h1 (by omega)⟩
          obtain rfl : best = dsn k := hsg.uniq HS.out
          have hle := hsg.2.2.1
          obtain ⟨B, hB⟩ : ∃ B, dstB (dsn k) = B := ⟨_, rfl⟩
          obtain ⟨q, hqq⟩ : ∃ q, dsn k = q := ⟨_, rfl⟩
          rw [hB] at hle CF
          rw [hqq] at CF ⊢
          have eB : (k : Int) - B = ((k - B : Nat) : Int) := by omega
          have HB3 := Lib.hid hB; have HQ3 := Lib.hid hqq
          clear hsg hqq hB hq
          go_wp2_with fail
          refine CF.out.mono ?_; rintro e w2 ⟨rfl, rfl⟩
          go_wp2_with fail
          go_ret3
          exact ⟨by rw [HB3.out, HQ3.out]; rfl, rfl⟩
end Go.Proofs.Ytnnpiblnjflceaa
