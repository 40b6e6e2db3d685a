/-
  Contracts of LengthSign and DistanceSign, in the program and in the document. Conditions: none but the range that each theorem names.
-/
import Derived.Test.YtnnpiblnjflceaaLD
namespace Go.Proofs.Ytnnpiblnjflceaa
open Go.RowKit
set_option maxRecDepth 100000

/-- The sign whose least number is the greatest not above n. -/
def great (b : Nat → Nat) (lo n : Nat) : Nat → Nat
  | 0 => lo
  | k + 1 => if b (lo + k + 1) ≤ n then lo + k + 1 else great b lo n k
/-- That s is that sign. -/
def SignOf (b : Nat → Nat) (lo hi n s : Nat) : Prop := lo ≤ s ∧ s < hi ∧ b s ≤ n ∧ ∀ t, s < t → t < hi → n < b t

theorem great_sign (b : Nat → Nat) (lo n : Nat) (h0 : b lo ≤ n) : ∀ k, SignOf b lo (lo + k + 1) n (great b lo n k)
  | 0 => ⟨Nat.le_refl _, Nat.lt_succ_self _, h0, fun t h1 h2 => by simp only [great] at h1; omega⟩
  | k + 1 => by
    unfold great
    by_cases h : b (lo + k + 1) ≤ n
    · rw [if_pos h]
      exact ⟨by omega, by omega, h, fun t h1 h2 => by omega⟩
    · rw [if_neg h]
      obtain ⟨h1, h2, h3, h4⟩ := great_sign b lo n h0 k
      refine ⟨h1, by omega, h3, fun t h5 h6 => ?_⟩
      by_cases e : t = lo + k + 1
      · subst e; omega
      · exact h4 t h5 (by omega)
theorem SignOf.uniq {b : Nat → Nat} {lo hi n s s' : Nat} (h : SignOf b lo hi n s) (h' : SignOf b lo hi n s') : s = s' := by
  obtain ⟨h1, h2, h3, h4⟩ := h
  obtain ⟨g1, g2, g3, g4⟩ := h'
  rcases Nat.lt_trichotomy s s' with e | e | e
  · have := h4 s' e g2; omega
  · exact e
  · have := g4 s e h2; omega

theorem below_drewN {k : Nat} {w w' : World} (h : Below k w w') (n : Nat) : Below k w (w'.drewN n) := ⟨h.os, h.tape, h.output, h.size, h.block⟩
theorem below_drew {k : Nat} {w w' : World} (h : Below k w w') : Below k w w'.drew := ⟨h.os, h.tape, h.output, h.size, h.block⟩

def lenB (s : Nat) : Nat := match lenOf s with | some p => p.1 | none => 0
def lenM (s : Nat) : Nat := match lenOf s with | some p => p.2 | none => 0
def dstB (s : Nat) : Nat := match dstOf s with | some p => p.1 | none => 0
def dstM (s : Nat) : Nat := match dstOf s with | some p => p.2 | none => 0
/-- A length's sign, a distance's. -/
def lsn (n : Nat) : Nat := great lenB 257 n 28
def dsn (n : Nat) : Nat := great dstB 0 n 29

theorem lenB_step : ∀ d, d < 28 → lenB (257 + d) < lenB (257 + d + 1) := by decide
theorem dstB_step : ∀ d, d < 29 → dstB d < dstB (d + 1) := by decide
theorem lenB_mono {s t : Nat} (h1 : 257 ≤ s) (h2 : s ≤ t) (h3 : t < 286) : lenB s ≤ lenB t := by
  obtain ⟨k, rfl⟩ := Nat.exists_eq_add_of_le h2
  induction k with
  | zero => exact Nat.le_refl _
  | succ k ih =>
    obtain ⟨d, rfl⟩ := Nat.exists_eq_add_of_le h1
    have := lenB_step (d + k) (by omega)
    have h := ih (by omega) (by omega)
    rw [← Nat.add_assoc] at this
    rw [← Nat.add_assoc]
    omega
theorem dstB_mono {s t : Nat} (h2 : s ≤ t) (h3 : t < 30) : dstB s ≤ dstB t := by
  obtain ⟨k, rfl⟩ := Nat.exists_eq_add_of_le h2
  induction k with
  | zero => exact Nat.le_refl _
  | succ k ih =>
    have := dstB_step (s + k) (by omega)
    have h := ih (by omega) (by omega)
    rw [← Nat.add_assoc]
    omega
theorem lenB_max : ∀ d, d < 29 → lenB (257 + d) ≤ 258 ∧ lenM (257 + d) ≤ 5 ∧ lenOf (257 + d) = some (lenB (257 + d), lenM (257 + d)) := by decide
theorem dstB_max : ∀ d, d < 30 → dstB d ≤ 24577 ∧ dstM d ≤ 13 ∧ dstOf d = some (dstB d, dstM d) := by decide

/-- A function that tells least numbers of signs. -/
def LeastFn (F : FuncId) (b m : Nat → Nat) (lo hi : Nat) : Prop :=
  ∀ s, lo ≤ s → s < hi → ∀ W, Calls Try.prog F #[.int .i64 (s : Nat)] W fun e w' => e = .returned (.tuple #[.int .i64 (b s : Nat), .int .i64 (m s : Nat), .bool true]) ∧ W = w'

theorem length_least : LeastFn 24 lenB lenM 257 286 := by
  intro s h1 h2 W
  obtain ⟨d, rfl⟩ := Nat.exists_eq_add_of_le h1
  refine (length_any _ W).mono ?_
  rintro e w' ⟨rfl, rfl⟩
  rw [if_neg (by omega), Int.toNat_natCast, (lenB_max d (by omega)).2.2]
  exact ⟨rfl, rfl⟩
theorem distance_least : LeastFn 26 dstB dstM 0 30 := by
  intro s h1 h2 W
  refine (distance_any _ W).mono ?_
  rintro e w' ⟨rfl, rfl⟩
  rw [if_neg (by omega), Int.toNat_natCast, (dstB_max s h2).2.2]
  exact ⟨rfl, rfl⟩
theorem refLength_least : LeastFn 25 lenB lenM 257 286 := by
  intro s h1 h2 W
  obtain ⟨d, rfl⟩ := Nat.exists_eq_add_of_le h1
  refine (refLength_any _ W).mono ?_
  rintro e w' ⟨rfl, rfl⟩
  rw [if_neg (by omega), Int.toNat_natCast, (lenB_max d (by omega)).2.2]
  exact ⟨rfl, rfl⟩
theorem refDistance_least : LeastFn 27 dstB dstM 0 30 := by
  intro s h1 h2 W
  refine (refDistance_any _ W).mono ?_
  rintro e w' ⟨rfl, rfl⟩
  rw [if_neg (by omega), Int.toNat_natCast, (dstB_max s h2).2.2]
  exact ⟨rfl, rfl⟩

theorem closure_any (F : FuncId) (hFF : F = 24 ∨ F = 26) (b m : Nat → Nat) (lo hi : Nat) (hlo : lo ≤ 1000) (hF : LeastFn F b m lo hi) (hb : ∀ s, b s ≤ 100000) (i : Nat) (hi1 : lo + i < hi) (hhi : hi ≤ 1000) (n : Nat) (g1 g2 g3 : Nat) (w : World)
    (c1 : w.cell? ⟨g1, 0, none⟩ = some (.func (.func F) #[] #[])) (c2 : w.cell? ⟨g2, 0, none⟩ = some (.int .i64 lo)) (c3 : w.cell? ⟨g3, 0, none⟩ = some (.int .i64 n)) :
    Calls Try.prog 43 #[.int .i64 i, .pointer (some ⟨g1, 0, none⟩), .pointer (some ⟨g2, 0, none⟩), .pointer (some ⟨g3, 0, none⟩)] w fun e w' => e = .returned (.bool (decide (n < b (lo + i)))) ∧ w = w' := by
  have CF := Lib.hid (fun W => hF (lo + i) (by omega) hi1 W)
  obtain ⟨B, hB⟩ : ∃ B, b (lo + i) = B := ⟨_, rfl⟩
  rw [hB] at CF ⊢
  have CG : Hid (∀ W, Calls Try.prog F #[.int .i64 ((lo : Int) + i)] W fun e w' => e = .returned (.tuple #[.int .i64 (B : Nat), .int .i64 (m (lo + i) : Nat), .bool true]) ∧ W = w') := Lib.hid (fun W => by have := CF.out W; rwa [show ((lo + i : Nat) : Int) = (lo : Int) + i by omega] at this)
  clear CF
  have hBm := hb (lo + i)
  rw [hB] at hBm
  clear hF hB
  have hdd : decide ((n : Int) < B) = decide (n < B) := by rw [decide_eq_decide]; omega
  rcases hFF with rfl | rfl
  all_goals (
    go_enter Try.func43, Try.ntmps43
    go_wp2_with fail
    refine (CG.out _).mono ?_; rintro e w2 ⟨rfl, rfl⟩
    go_wp2_with fail
    go_ret
    exact ⟨by simp, rfl⟩)

/-- What is kept of a binary search. -/
def Cut (b : Nat → Nat) (lo n N i j : Nat) : Prop := i ≤ j ∧ j ≤ N ∧ (i = 0 ∨ b (lo + i - 1) ≤ n) ∧ (j = N ∨ n < b (lo + j))

set_option maxHeartbeats 1000000 in
theorem search_any (F : FuncId) (hFF : F = 24 ∨ F = 26) (b m : Nat → Nat) (lo N : Nat) (hlo : lo ≤ 500) (hN : N ≤ 400) (hF : LeastFn F b m lo (lo + N)) (hb : ∀ s, b s ≤ 100000) (n : Nat) (g1 g2 g3 : Nat) (w : World)
    (c1 : w.cell? ⟨g1, 0, none⟩ = some (.func (.func F) #[] #[])) (c2 : w.cell? ⟨g2, 0, none⟩ = some (.int .i64 lo)) (c3 : w.cell? ⟨g3, 0, none⟩ = some (.int .i64 n)) :
    Calls Try.prog 42 #[.int .i64 N, .func (.func 43) #[] #[.pointer (some ⟨g1, 0, none⟩), .pointer (some ⟨g2, 0, none⟩), .pointer (some ⟨g3, 0, none⟩)]] w fun e w' => ∃ i : Nat, e = .returned (.int .i64 i) ∧ Cut b lo n N i i ∧ w = w' := by
  have CC := Lib.hid (fun (i : Nat) (h : i < N) => closure_any F hFF b m lo (lo + N) (by omega) hF hb i (by omega) (by omega) n g1 g2 g3 w c1 c2 c3)
  clear hF hb hFF c1 c2 c3
  go_enter Try.func42, Try.ntmps42
  go_wp2_with fail
  go_loopw [5, 6, 7] (fun x y _ wr => ∃ i j : Nat, x = .int .i64 i ∧ y = .int .i64 j ∧ Hid (Cut b lo n N i j) ∧ i ≤ j ∧ j ≤ N ∧ wr = w) (fun x y _ _ => (intOf y).toNat - (intOf x).toNat)
  case atStart => exact ⟨0, N, rfl, rfl, Lib.hid ⟨Nat.zero_le _, Nat.le_refl _, .inl rfl, .inl rfl⟩, Nat.zero_le _, Nat.le_refl _, rfl⟩
  case round =>
    obtain ⟨i, j, rfl, rfl, hc, hij, hjN, rfl⟩ := hrel
    by_cases hlt : i < j
    · have dl : decide ((i : Int) < j) = true := decide_eq_true (by omega)
      obtain ⟨h, hh⟩ : ∃ h, (i + j) / 2 = h := ⟨_, rfl⟩
      have eh : ((i : Int) + j) / 2 = h := by omega
      have CH := Lib.hid (CC.out h (by omega))
      have hc' := hc.out
      obtain ⟨q1, q2, q3, q4⟩ := hc'
      have HC3 := Lib.hid q3; have HC4 := Lib.hid q4
      obtain ⟨P, hP⟩ : ∃ P, decide (n < b (lo + h)) = P := ⟨_, rfl⟩
      rw [hP] at CH
      have HP := Lib.hid hP
      clear q3 q4 hP
      cases P with
      | false =>
        go_wp2_with fail
        refine CH.out.mono ?_; rintro e w2 ⟨rfl, rfl⟩
        go_wp2_with fail
        go_roundw
        case rel => exact ⟨h + 1, j, by go_num, rfl, Lib.hid ⟨by omega, by omega, .inr (by have := of_decide_eq_false HP.out; rw [show lo + (h + 1) - 1 = lo + h by omega]; omega), HC4.out⟩, by omega, by omega, by trivial⟩
        case measure => simp [intOf]; omega
      | true =>
        go_wp2_with fail
        refine CH.out.mono ?_; rintro e w2 ⟨rfl, rfl⟩
        go_wp2_with fail
        go_roundw
        case rel => exact ⟨i, h, rfl, rfl, Lib.hid ⟨by omega, by omega, HC3.out, .inr (of_decide_eq_true HP.out)⟩, by omega, by omega, by trivial⟩
        case measure => simp [intOf]; omega
    · obtain rfl : i = j := by omega
      go_wp2_with fail
      go_ret
      exact ⟨i, rfl, hc.out, rfl⟩

set_option maxHeartbeats 1000000 in
theorem greatest_any (F : FuncId) (hFF : F = 24 ∨ F = 26) (b m : Nat → Nat) (lo N : Nat) (hlo : lo ≤ 500) (hN0 : 1 ≤ N) (hN : N ≤ 400) (hF : LeastFn F b m lo (lo + N)) (hb : ∀ s, b s ≤ 100000) (hmono : ∀ s t, lo ≤ s → s ≤ t → t < lo + N → b s ≤ b t) (n : Nat) (hn : n ≤ 100000) (h0 : b lo ≤ n) (E : Int) (hE : E = lo + N) (w : World) :
    Calls Try.prog 23 #[.func (.func F) #[] #[], .int .i64 lo, .int .i64 E, .int .i64 n] w fun e w' => ∃ s : Nat, e = .returned (.tuple #[.int .i64 s, .int .i64 ((n - b s : Nat) : Int)]) ∧ SignOf b lo (lo + N) n s ∧ Below w.heap.size w w' := by
  have CS := Lib.hid (fun g1 g2 g3 W c1 c2 c3 => search_any F hFF b m lo N hlo hN hF hb n g1 g2 g3 W c1 c2 c3)
  have HF := Lib.hid hF
  have HM := Lib.hid hmono
  have HB := Lib.hid hb
  have eE : E - lo = N := by omega
  have wE : IntKind.i64.wrap (N : Int) = N := IntWalk.i64_in _ (by omega)
  clear hF hmono hb hE
  have hB3 : Hid (Below w.heap.size w (((w.alloc (.cells #[.func (.func F) #[] #[]] 24)).alloc (.cells #[.int .i64 lo] 3)).alloc (.cells #[.int .i64 n] 3))) := Lib.hid ((((Below.refl _ _).alloc (Nat.le_refl _) _).alloc (by simp) _).alloc (by simp; omega) _)
  have W1 : Whole (((w.alloc (.cells #[.func (.func F) #[] #[]] 24)).alloc (.cells #[.int .i64 lo] 3)).alloc (.cells #[.int .i64 n] 3)) w.heap.size 24 #[.func (.func F) #[] #[]] := ((Whole.new w 24 _).alloc _).alloc _
  have W2 : Whole (((w.alloc (.cells #[.func (.func F) #[] #[]] 24)).alloc (.cells #[.int .i64 lo] 3)).alloc (.cells #[.int .i64 n] 3)) (w.heap.size + 1) 3 #[.int .i64 lo] := by
    have := ((Whole.new (w.alloc (.cells #[.func (.func F) #[] #[]] 24)) 3 #[.int .i64 lo]).alloc (.cells #[.int .i64 n] 3))
    simpa using this
  have W3 : Whole (((w.alloc (.cells #[.func (.func F) #[] #[]] 24)).alloc (.cells #[.int .i64 lo] 3)).alloc (.cells #[.int .i64 n] 3)) (w.heap.size + 1 + 1) 3 #[.int .i64 n] := by
    have := Whole.new ((w.alloc (.cells #[.func (.func F) #[] #[]] 24)).alloc (.cells #[.int .i64 lo] 3)) 3 #[.int .i64 n]
    simpa using this
  obtain ⟨X, hX⟩ : ∃ X, (((w.alloc (.cells #[.func (.func F) #[] #[]] 24)).alloc (.cells #[.int .i64 lo] 3)).alloc (.cells #[.int .i64 n] 3)) = X := ⟨_, rfl⟩
  rw [hX] at W1 W2 W3 hB3
  have c1 : X.cell? ⟨w.heap.size, 0, none⟩ = some (.func (.func F) #[] #[]) := W1.cell 0
  have c2 : X.cell? ⟨w.heap.size + 1, 0, none⟩ = some (.int .i64 lo) := W2.cell 0
  have c3 : X.cell? ⟨w.heap.size + 1 + 1, 0, none⟩ = some (.int .i64 n) := W3.cell 0
  have CX := Lib.hid (CS.out _ _ _ X c1 c2 c3)
  have HXX := Lib.hid hX
  clear CS W1 W2 W3 hX
  rcases hFF with rfl | rfl
  all_goals (
    go_enter Try.func23, Try.ntmps23
    go_wp2_with fail
    rw [HXX.out]
    refine CX.out.mono ?_; rintro e w2 ⟨i, rfl, hcut, rfl⟩
    obtain ⟨k, rfl⟩ : ∃ k, i = k + 1 := ⟨i - 1, by
      rcases Nat.eq_zero_or_pos i with h | h
      · subst h
        rcases hcut.2.2.2 with h5 | h5
        · omega
        · simp at h5; omega
      · omega⟩
    obtain ⟨s, hs⟩ : ∃ s, lo + k = s := ⟨_, rfl⟩
    have es : (lo : Int) + ((k : Int) + 1) - 1 = s := by omega
    have es' : (lo : Int) + ((k + 1 : Nat) : Int) - 1 = s := by omega
    have hsg : SignOf b lo (lo + N) n s := by
      obtain ⟨_, q2, q3, q4⟩ := hcut
      refine ⟨by omega, by omega, ?_, fun t h1 h2 => ?_⟩
      · rcases q3 with q3 | q3
        · omega
        · rw [show lo + (k + 1) - 1 = s by omega] at q3; exact q3
      · rcases q4 with q4 | q4
        · omega
        · have := HM.out (lo + (k + 1)) t (by omega) (by omega) h2
          omega
    have CF := Lib.hid (HF.out s hsg.1 hsg.2.1 X)
    have hbs := hsg.2.2.1
    have HSG := Lib.hid hsg
    obtain ⟨B, hBB⟩ : ∃ B, b s = B := ⟨_, rfl⟩
    rw [hBB] at CF hbs
    have HBB := Lib.hid hBB
    have eB : (n : Int) - B = ((n - B : Nat) : Int) := by omega
    clear hcut hsg hBB hs
    have hk400 : k ≤ 400 := by have := HSG.out.2.1; omega
    go_wp2_with fail
    refine CF.out.mono ?_; rintro e w3 ⟨rfl, rfl⟩
    go_wp2_with fail
    go_quiet (fail)
    go_wp2_with fail
    go_ret2
    exact ⟨s, by rw [HBB.out]; rfl, HSG.out, below_drewN hB3.out _⟩)
end Go.Proofs.Ytnnpiblnjflceaa
