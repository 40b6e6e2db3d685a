/-
  The law of many's walk. Conditions: none.
-/
import Derived.Test.YtibkdmliolebgaaDoorLA
namespace Go.Proofs.YtibkdmliolebgaaDoor
open Go Go.RowKit
set_option maxRecDepth 100000

theorem flat_snoc (k : Nat) (one : List UInt8) : (List.replicate k one).flatten ++ one = (List.replicate (k + 1) one).flatten := by
  rw [List.replicate_succ', List.flatten_append]; simp
theorem flat_len (k : Nat) (one : List UInt8) : (List.replicate k one).flatten.length = k * one.length := by
  induction k with
  | zero => simp
  | succ k ih => rw [List.replicate_succ, List.flatten_cons, List.length_append, ih, Nat.succ_mul]; omega
theorem rooms_rep (one : List UInt8) (room : Nat) (h : roomM one = (room : Int)) : ∀ k, roomsS (List.replicate k one) = ((k * room : Nat) : Int)
  | 0 => by simp [roomsS]
  | k + 1 => by rw [List.replicate_succ', roomsS_snoc, rooms_rep one room h k, h, Nat.succ_mul]; omega
theorem one_La : FieldD [91, 91, 76, 97, 59] := fieldD_dims (k := 2) (by decide) (.inr ⟨[97], class_a, rfl⟩)
theorem one_D : FieldD [68] := fieldD_letter (by decide)
theorem room_La : roomM [91, 91, 76, 97, 59] = ((1 : Nat) : Int) := by rw [roomM, if_neg (by decide), if_pos ((field_iff _).2 one_La)]; rfl

theorem wN6 (M : Nat) (h : M ≤ 600) : wrap64 (M : Int) = (M : Int) := by rw [IntWalk.wrap64_in _ (by omega)]
theorem iN6 (M : Nat) (h : M ≤ 600) : IntKind.i64.wrap (M : Int) = (M : Int) := by rw [IntWalk.i64_in _ (by omega)]
set_option maxHeartbeats 8000000 in
theorem many_yes (x : Nat) (hx : x < 65536) (wide : Bool) (one : List UInt8) (room : Nat) (ho : one = if wide then [68] else [91, 91, 76, 97, 59]) (hr : room = if wide then 2 else 1) (w : World) :
    Calls Tryd.prog 5 #[.int .u16 (x : Int), .bool wide] w (Gives w (.bool true)) := by
  have F := Lib.hid (fun W => fixed_any W)
  obtain ⟨k, hk⟩ : ∃ k, x % 300 = k := ⟨_, rfl⟩
  have hk3 : k < 300 := by omega
  have hfd : FieldD one ∧ roomM one = (room : Int) ∧ one.length ≤ 5 ∧ 1 ≤ room ∧ room ≤ 2 := by
    cases wide with
    | true => rw [ho, hr]; exact ⟨one_D, rfl, by decide, by decide, by decide⟩
    | false => rw [ho, hr]; exact ⟨one_La, room_La, by decide, by decide, by decide⟩
  obtain ⟨f1, f2, f3, f4, f5⟩ := hfd
  have hlen := flat_len k one
  have hl5 : k * one.length ≤ k * 5 := Nat.mul_le_mul_left k f3
  obtain ⟨s, hs⟩ : ∃ s, 40 :: ((List.replicate k one).flatten ++ 41 :: [86]) = s := ⟨_, rfl⟩
  have hsl : s.length ≤ 10000 := by rw [← hs]; simp only [List.length_cons, List.length_append, List.length_nil]; omega
  have hp := params_of (xs := List.replicate k one) [86] (fun y hy => by rw [List.eq_of_mem_replicate hy]; exact f1) (.inl rfl)
  rw [hs] at hp
  have P2 := Lib.hid (fun W => prooms_any s hsl W)
  have hrm : roomsM s = if 255 < ((k * room : Nat) : Int) then (0, false) else (((k * room : Nat) : Int), true) := by
    rw [roomsM, hp]
    show (if 255 < roomsS (List.replicate k one) then ((0 : Int), false) else (roomsS (List.replicate k one), true)) = _
    rw [rooms_rep one room f2 k]
  have P1 : Hid (∀ W, Calls Tryd.prog 21 #[.string (tx s)] W fun e w' => ∃ A c, e = .returned (.tuple #[.slice A k c, .string (tx [86]), .bool true]) ∧ Below W.heap.size W w') := Lib.hid fun W => by
    have h := pparams_any s hsl W
    rw [hp] at h
    refine h.mono ?_
    rintro e w' ⟨v, rfl, b, ho⟩
    obtain ⟨A, c, rfl, _⟩ := own_form ho
    exact ⟨A, c, by rw [List.length_replicate], b⟩
  rw [hrm] at P2
  have hmul : (k : Int) * (room : Int) = ((k * room : Nat) : Int) := by simp
  obtain ⟨M, hM⟩ : ∃ M, k * room = M := ⟨_, rfl⟩
  rw [hM] at hmul P2
  have hM6 : M ≤ 600 := by
    rw [← hM]
    have := Nat.mul_le_mul (show k ≤ 300 by omega) f5
    omega
  have q1 : ∀ z : Int, z = (k : Int) * (room : Int) → wrap64 z = (M : Int) := fun z hz => by rw [hz, hmul]; exact wN6 M hM6
  have q2 : ∀ z : Int, z = (k : Int) * (room : Int) → IntKind.i64.wrap z = (M : Int) := fun z hz => by rw [hz, hmul]; exact iN6 M hM6
  have P2b : Hid (∀ W, Calls Tryd.prog 23 #[.string (tx s)] W (Gives W (.tuple #[.int .i64 (if 255 < M then 0 else (M : Int)), .bool (!decide (255 < M))]))) := Lib.hid fun W => by
    have h := P2.out W
    by_cases h5 : 255 < M
    · rw [if_pos (show (255 : Int) < (M : Int) by omega)] at h
      rw [if_pos h5, decide_eq_true h5]; exact h
    · rw [if_neg (show ¬ (255 : Int) < (M : Int) by omega)] at h
      rw [if_neg h5, decide_eq_false h5]; exact h
  have t1 : (x : Int).tmod 300 = (k : Int) := by rw [Int.tmod_eq_emod_of_nonneg (by omega)]; omega
  have HS := Lib.hid hs
  have HT := Lib.hid (fun i : Nat => tx_app (40 :: (List.replicate i one).flatten) one)
  have HE := Lib.hid (tx_app (40 :: (List.replicate k one).flatten) [41, 86])
  clear P2 hs hp hrm hlen hl5 hk f1 f2 hx hmul f3
  cases wide with
  | true =>
    have hone : tx one = ⟨#[68]⟩ := by rw [ho]; rfl
    have hol : one.length = 1 := by rw [ho]; rfl
    have HT2 := Lib.hid (fun i : Nat => (hone ▸ HT.out i : tx (40 :: (List.replicate i one).flatten) ++ ⟨#[68]⟩ = tx (40 :: (List.replicate i one).flatten ++ one)))
    have HL := Lib.hid (fun i : Nat => (show (tx (40 :: (List.replicate i one).flatten)).size = i * 1 + 1 by rw [tx_size, List.length_cons, flat_len, hol]))
    have hroom : room = 2 := hr
    subst hroom
    clear hone ho hr hol f4 f5
    have q3 : ∀ z : Int, z = (k : Int) * 2 → wrap64 z = (M : Int) := q1
    have q4 : ∀ z : Int, z = (k : Int) * 2 → IntKind.i64.wrap z = (M : Int) := q2
    clear q1 q2 hM
    go_enter Tryd.func5, Tryd.ntmps5
    go_wp2_with (go_at_call 6; refine (F.out _).mono ?_; rintro e w1 ⟨rfl, b1⟩)
    go_loopg [8, 21] k (fun j v8 v21 wr => ∃ i : Nat, i ≤ k ∧ j = k - i ∧ v21 = .int .i64 i ∧ v8 = .string (tx (40 :: (List.replicate i one).flatten)) ∧ wr = w1)
    case atStart => exact ⟨0, by omega, rfl, rfl, rfl, rfl⟩
    case round =>
      obtain ⟨i, hi, rfl, rfl, rfl, rfl⟩ := hrel
      have hsz := HL.out i
      by_cases hlt : i < k
      · have d0 : decide ((i : Int) < (k : Int)) = true := by rw [decide_eq_true_iff]; omega
        have hcat := HT2.out i
        rw [List.cons_append, flat_snoc] at hcat
        obtain ⟨S2, hS2⟩ : ∃ S, tx (40 :: (List.replicate (i + 1) one).flatten) = S := ⟨_, rfl⟩
        rw [hS2] at hcat
        have HS2 := Lib.hid hS2
        clear hS2
        generalize tx (40 :: (List.replicate i one).flatten) = S1 at *
        have hno : ¬ 9223372036854775807 < S1.size + 1 := by omega
        clear hsz
        go_wp2_with fail
        go_roundg (k - (i + 1))
        case measure => omega
        case rel => exact ⟨i + 1, by omega, rfl, by go_num, by rw [HS2.out], rfl⟩
      · obtain rfl : i = k := by omega
        have d0 : decide ((i : Int) < (i : Int)) = false := by rw [decide_eq_false_iff_not]; omega
        have hcat := HE.out
        rw [List.cons_append, HS.out, show tx [41, 86] = ⟨#[41, 86]⟩ from rfl] at hcat
        generalize tx s = S2 at *
        generalize tx (40 :: (List.replicate i one).flatten) = S1 at *
        have hno : ¬ 9223372036854775807 < S1.size + 2 := by omega
        clear hsz
        by_cases h5 : 255 < M
        · have d5 : decide ((M : Int) ≤ 255) = false := by rw [decide_eq_false_iff_not]; omega
          have d6 : ¬ (M ≤ 255) := by omega
          rw [if_pos h5, decide_eq_true h5] at P2b
          clear HT HL HT2 HE HS
          go_wp2_with (first | (go_at_call 21; refine (P1.out _).mono ?_; rintro e w2 ⟨A, c, rfl, b2⟩) | (go_at_call 23; refine (P2b.out _).mono ?_; rintro e w3 ⟨rfl, b3⟩))
          go_ret
          exact ⟨by simp, (b1.trans (b2.mono b1.size)).trans (b3.mono (b1.trans (b2.mono b1.size)).size)⟩
        · have d5 : decide ((M : Int) ≤ 255) = true := by rw [decide_eq_true_iff]; omega
          have d6 : M ≤ 255 := by omega
          rw [if_neg h5, decide_eq_false h5] at P2b
          clear HT HL HT2 HE HS
          go_wp2_with (first | (go_at_call 21; refine (P1.out _).mono ?_; rintro e w2 ⟨A, c, rfl, b2⟩) | (go_at_call 23; refine (P2b.out _).mono ?_; rintro e w3 ⟨rfl, b3⟩))
          go_ret
          exact ⟨by simp, (b1.trans (b2.mono b1.size)).trans (b3.mono (b1.trans (b2.mono b1.size)).size)⟩
  | false =>
    have hone : tx one = ⟨#[91, 91, 76, 97, 59]⟩ := by rw [ho]; rfl
    have hol : one.length = 5 := by rw [ho]; rfl
    have HT2 := Lib.hid (fun i : Nat => (hone ▸ HT.out i : tx (40 :: (List.replicate i one).flatten) ++ ⟨#[91, 91, 76, 97, 59]⟩ = tx (40 :: (List.replicate i one).flatten ++ one)))
    have HL := Lib.hid (fun i : Nat => (show (tx (40 :: (List.replicate i one).flatten)).size = i * 5 + 1 by rw [tx_size, List.length_cons, flat_len, hol]))
    have hroom : room = 1 := hr
    subst hroom
    clear hone ho hr hol f4 f5
    clear q1 q2
    obtain rfl : k = M := by omega
    have q3 : ∀ z : Int, z = (k : Int) → wrap64 z = (k : Int) := fun z hz => by rw [hz]; exact wN6 k hM6
    have q4 : ∀ z : Int, z = (k : Int) → IntKind.i64.wrap z = (k : Int) := fun z hz => by rw [hz]; exact iN6 k hM6
    go_enter Tryd.func5, Tryd.ntmps5
    go_wp2_with (go_at_call 6; refine (F.out _).mono ?_; rintro e w1 ⟨rfl, b1⟩)
    go_loopg [8, 21] k (fun j v8 v21 wr => ∃ i : Nat, i ≤ k ∧ j = k - i ∧ v21 = .int .i64 i ∧ v8 = .string (tx (40 :: (List.replicate i one).flatten)) ∧ wr = w1)
    case atStart => exact ⟨0, by omega, rfl, rfl, rfl, rfl⟩
    case round =>
      obtain ⟨i, hi, rfl, rfl, rfl, rfl⟩ := hrel
      have hsz := HL.out i
      by_cases hlt : i < k
      · have d0 : decide ((i : Int) < (k : Int)) = true := by rw [decide_eq_true_iff]; omega
        have hcat := HT2.out i
        rw [List.cons_append, flat_snoc] at hcat
        obtain ⟨S2, hS2⟩ : ∃ S, tx (40 :: (List.replicate (i + 1) one).flatten) = S := ⟨_, rfl⟩
        rw [hS2] at hcat
        have HS2 := Lib.hid hS2
        clear hS2
        generalize tx (40 :: (List.replicate i one).flatten) = S1 at *
        have hno : ¬ 9223372036854775807 < S1.size + 5 := by omega
        clear hsz
        go_wp2_with fail
        go_roundg (k - (i + 1))
        case measure => omega
        case rel => exact ⟨i + 1, by omega, rfl, by go_num, by rw [HS2.out], rfl⟩
      · obtain rfl : i = k := by omega
        have d0 : decide ((i : Int) < (i : Int)) = false := by rw [decide_eq_false_iff_not]; omega
        have hcat := HE.out
        rw [List.cons_append, HS.out, show tx [41, 86] = ⟨#[41, 86]⟩ from rfl] at hcat
        generalize tx s = S2 at *
        generalize tx (40 :: (List.replicate i one).flatten) = S1 at *
        have hno : ¬ 9223372036854775807 < S1.size + 2 := by omega
        clear hsz
        by_cases h5 : 255 < i
        · have d5 : decide ((i : Int) ≤ 255) = false := by rw [decide_eq_false_iff_not]; omega
          have d6 : ¬ (i ≤ 255) := by omega
          rw [if_pos h5, decide_eq_true h5] at P2b
          clear HT HL HT2 HE HS
          go_wp2_with (first | (go_at_call 21; refine (P1.out _).mono ?_; rintro e w2 ⟨A, c, rfl, b2⟩) | (go_at_call 23; refine (P2b.out _).mono ?_; rintro e w3 ⟨rfl, b3⟩))
          go_ret
          exact ⟨by simp, (b1.trans (b2.mono b1.size)).trans (b3.mono (b1.trans (b2.mono b1.size)).size)⟩
        · have d5 : decide ((i : Int) ≤ 255) = true := by rw [decide_eq_true_iff]; omega
          have d6 : i ≤ 255 := by omega
          rw [if_neg h5, decide_eq_false h5] at P2b
          clear HT HL HT2 HE HS
          go_wp2_with (first | (go_at_call 21; refine (P1.out _).mono ?_; rintro e w2 ⟨A, c, rfl, b2⟩) | (go_at_call 23; refine (P2b.out _).mono ?_; rintro e w3 ⟨rfl, b3⟩))
          go_ret
          exact ⟨by simp, (b1.trans (b2.mono b1.size)).trans (b3.mono (b1.trans (b2.mono b1.size)).size)⟩
theorem u16_of_wf {x : Int} (h : (Lit.int .u16 x).wf = true) : ∃ m : Nat, m < 65536 ∧ x = m := by
  simp [Lit.wf, IntKind.min, IntKind.max, IntKind.signed, IntKind.bits] at h
  exact ⟨x.toNat, by omega, by omega⟩
theorem many_row (x : Int) (h : (Lit.int .u16 x).wf = true) (wide : Bool) (w : World) : Calls Tryd.prog 5 #[.int .u16 x, .bool wide] w (Gives w (.bool true)) := by
  obtain ⟨m, hm, rfl⟩ := u16_of_wf h
  exact many_yes m hm wide _ _ rfl rfl w
end Go.Proofs.YtibkdmliolebgaaDoor
