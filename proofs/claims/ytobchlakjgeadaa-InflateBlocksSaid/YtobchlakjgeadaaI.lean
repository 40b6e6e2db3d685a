/-
  Kind of lengths, in the program and the document. Conditions: each theorem names the range of its arguments.
-/
import Derived.Test.YtobchlakjgeadaaD
import Derived.Test.YtobchlakjgeadaaG
namespace Go.Proofs.Ytobchlakjgeadaa
open Go.RowKit


/-- Integers as values. -/
def iv (l : List Int) : List Value := l.map (Value.int .i64)
@[simp] theorem iv_length (l : List Int) : (iv l).length = l.length := by simp [iv]
theorem iv_get? {l : List Int} {i : Nat} (h : i < l.length) : (iv l)[i]? = some (.int .i64 l[i]) := by simp [iv, h]

/-- An integer of a slice that is read. -/
theorem Seen.int {w : World} {B : Nat} {A : Option Addr} {n c : Nat} {l : List Int} (h : Seen w B 1 A n c (iv l)) (hn : l.length = n) {k : Nat} (hk : k < n) :
    ∃ b o, A = some ⟨b, o, none⟩ ∧ b < B ∧ w.cell? ⟨b, o + k, none⟩ = some (.int .i64 (l[k]'(by omega))) := by
  obtain ⟨b, o, u, h1, h2, h3, h4⟩ := h.at hk
  rw [iv_get? (by omega)] at h3
  injection h3 with h3
  subst h3
  exact ⟨b, o, h1, h2, h4⟩

theorem shr_wt (m : Nat) (h0 : 0 < m) (h1 : m ≤ 15) : ((32768 : Int) / 2 ^ m) = (wt m : Nat) := by
  have : m = 1 ∨ m = 2 ∨ m = 3 ∨ m = 4 ∨ m = 5 ∨ m = 6 ∨ m = 7 ∨ m = 8 ∨ m = 9 ∨ m = 10 ∨ m = 11 ∨ m = 12 ∨ m = 13 ∨ m = 14 ∨ m = 15 := by omega
  rcases this with rfl | rfl | rfl | rfl | rfl | rfl | rfl | rfl | rfl | rfl | rfl | rfl | rfl | rfl | rfl <;> decide

set_option maxHeartbeats 1000000 in
theorem kind_any (A : Option Addr) (n c B : Nat) (l : List Int) (hn : l.length = n) (hl : n ≤ 1000) (w : World) (hs : Seen w B 1 A n c (iv l)) :
    Calls Try.prog 72 #[.slice A n c] w fun e w' => e = .returned (.int .i64 (kindOf l : Nat)) ∧ w = w' := by
  have HS := Lib.hid hs; clear hs
  have HN := Lib.hid hn; clear hn
  go_enter Try.func72, Try.ntmps72
  go_wp2
  go_loop [3, 4, 9] (fun x y i => ∃ k : Nat, k ≤ n ∧ i = .int .i64 k ∧ x = .int .i64 (words (l.take k) : Nat) ∧ y = .int .i64 (weight (l.take k) : Nat) ∧ weight (l.take k) ≤ 32768 ∧ Ok (l.take k)) (fun _ _ i => n - (intOf i).toNat)
  case atStart => exact ⟨0, Nat.zero_le _, rfl, rfl, rfl, by simp [weight], by intro x hx; simp at hx⟩
  case round =>
    obtain ⟨k, hk, rfl, rfl, rfl, hw, hok⟩ := hrel
    have HOK := Lib.hid hok; clear hok
    have hwd : words (l.take k) ≤ 1000 := by have := words_le (l.take k); simp at this; omega
    by_cases hlt : k < n
    · obtain ⟨b, o, rfl, _, hc⟩ := HS.out.int HN.out hlt
      have hkl : k < l.length := by have := HN.out; omega
      have E1 := Lib.hid (weight_take l k hkl)
      have E2 := Lib.hid (words_take l k hkl)
      have E3 := Lib.hid (ok_take l k hkl)
      have E4 := Lib.hid (@not_ok l k hkl)
      have E5 := Lib.hid (kind_over l (k + 1))
      obtain ⟨x, hx⟩ : ∃ x, l[k] = x := ⟨_, rfl⟩
      rw [hx] at hc
      by_cases h0 : 0 ≤ x
      · by_cases h15 : x ≤ 15
        · obtain ⟨m, rfl⟩ := Int.eq_ofNat_of_zero_le h0
          have HX := Lib.hid hx; clear hx
          by_cases hm : 0 < m
          · have es := shr_wt m hm (by omega)
            have hwt := wt_lt m (by omega)
            generalize weight (l.take k) = W at *
            generalize words (l.take k) = V at *
            obtain ⟨u, hu⟩ : ∃ u, wt (m : Int) = u := ⟨_, rfl⟩
            rw [hu] at es hwt
            have HU := Lib.hid hu; clear hu
            by_cases hov : 32768 < W + u
            · go_wp2
              go_ret
              refine ⟨?_, rfl⟩
              rw [E5.out (by rw [E1.out, HX.out, HU.out]; exact hov)]
              rfl
            · have hov' : (W : Int) + u ≤ 32768 := by omega
              go_wp2
              go_round
              case rel =>
                refine ⟨k + 1, by omega, by go_num, ?_, ?_, ?_, ?_⟩
                · rw [E2.out, HX.out, if_neg (by omega)]; go_num
                · rw [E1.out, HX.out, HU.out]; go_num
                · rw [E1.out, HX.out, HU.out]; omega
                · rw [E3.out, HX.out]; exact ⟨HOK.out, by omega, by omega⟩
              case measure => simp [intOf]; omega
          · obtain rfl : m = 0 := by omega
            go_wp2
            go_round
            case rel =>
              refine ⟨k + 1, by omega, by go_num, ?_, ?_, ?_, ?_⟩
              · rw [E2.out, HX.out]; rfl
              · rw [E1.out, HX.out]; rfl
              · rw [E1.out, HX.out]; exact hw
              · rw [E3.out, HX.out]; exact ⟨HOK.out, by omega, by omega⟩
            case measure => simp [intOf]; omega
        · have hk0 : kindOf l = 0 := by unfold kindOf; rw [if_neg (E4.out (by rw [hx]; omega))]
          have HK := Lib.hid hk0; clear hk0
          have HX := Lib.hid hx; clear hx
          have h15' : decide (15 < x) = true := by simp; omega
          go_wp2
          go_ret
          exact ⟨by rw [HK.out]; rfl, rfl⟩
      · have hk0 : kindOf l = 0 := by unfold kindOf; rw [if_neg (E4.out (by rw [hx]; omega))]
        have HK := Lib.hid hk0; clear hk0
        have HX := Lib.hid hx; clear hx
        go_wp2
        go_ret
        exact ⟨by rw [HK.out]; rfl, rfl⟩
    · obtain rfl : k = n := by omega
      have e : l.take k = l := List.take_of_length_le (by have := HN.out; omega)
      rw [e] at hw HOK hwd ⊢
      have hK : kindOf l = if words l = 0 then 1 else if words l = 1 ∧ weight l = 16384 then 2 else if weight l = 32768 then 3 else 0 := by unfold kindOf; rw [if_pos HOK.out]
      have HK := Lib.hid hK; clear hK e
      generalize weight l = W at *
      generalize words l = V at *
      by_cases h0 : V = 0
      · subst h0
        go_wp2
        go_ret
        exact ⟨by rw [HK.out]; rfl, rfl⟩
      · by_cases h1 : V = 1
        · subst h1
          by_cases h2 : W = 16384
          · subst h2
            go_wp2
            go_ret
            exact ⟨by rw [HK.out]; rfl, rfl⟩
          · by_cases h3 : W = 32768
            · subst h3
              go_wp2
              go_ret
              exact ⟨by rw [HK.out]; rfl, rfl⟩
            · have d2 : ((W : Int) == 16384) = false := by simp; omega
              have d3 : ((W : Int) == 32768) = false := by simp; omega
              go_wp2
              go_ret
              exact ⟨by rw [HK.out]; simp [h2, h3], rfl⟩
        · have d1 : ((V : Int) == 1) = false := by simp; omega
          have d0 : ((V : Int) == 0) = false := by simp; omega
          by_cases h3 : W = 32768
          · subst h3
            go_wp2
            go_ret
            exact ⟨by rw [HK.out]; simp [h0, h1], rfl⟩
          · have d3 : ((W : Int) == 32768) = false := by simp; omega
            go_wp2
            go_ret
            exact ⟨by rw [HK.out]; simp [h0, h1, h3], rfl⟩

theorem pow_step (j : Nat) : ((2 ^ j : Nat) : Int) * 2 = ((2 ^ (j + 1) : Nat) : Int) := by rw [Nat.pow_succ]; simp

set_option maxHeartbeats 1000000 in
theorem refWeight_any (A : Option Addr) (n c B : Nat) (l : List Int) (hn : l.length = n) (hl : n ≤ 1000) (w : World) (hs : Seen w B 1 A n c (iv l)) :
    Calls Try.prog 65 #[.slice A n c] w fun e w' => e = .returned (.tuple (if Ok l then #[.int .i64 (weight l : Nat), .bool true] else #[.int .i64 0, .bool false])) ∧ w = w' := by
  have HS := Lib.hid hs; clear hs
  have HN := Lib.hid hn; clear hn
  go_enter Try.func65, Try.ntmps65
  go_wp2
  go_loop [4, 11] (fun y i => ∃ k : Nat, k ≤ n ∧ i = .int .i64 k ∧ y = .int .i64 (weight (l.take k) : Nat) ∧ Ok (l.take k)) (fun _ i => n - (intOf i).toNat)
  case atStart => exact ⟨0, Nat.zero_le _, rfl, rfl, by intro x hx; simp at hx⟩
  case round =>
    obtain ⟨k, hk, rfl, rfl, hok⟩ := hrel
    have HOK := Lib.hid hok; clear hok
    have hw : weight (l.take k) ≤ 32768000 := by have := weight_le (l.take k); simp at this; omega
    by_cases hlt : k < n
    · obtain ⟨b, o, rfl, _, hc⟩ := HS.out.int HN.out hlt
      have hkl : k < l.length := by have := HN.out; omega
      have E1 := Lib.hid (weight_take l k hkl)
      have E3 := Lib.hid (ok_take l k hkl)
      have E4 := Lib.hid (@not_ok l k hkl)
      obtain ⟨x, hx⟩ : ∃ x, l[k] = x := ⟨_, rfl⟩
      rw [hx] at hc
      by_cases h0 : 0 ≤ x
      · by_cases h15 : x ≤ 15
        · obtain ⟨m, rfl⟩ := Int.eq_ofNat_of_zero_le h0
          have HX := Lib.hid hx; clear hx
          by_cases hm : 0 < m
          · generalize weight (l.take k) = W at *
            go_wp2
            go_loop [7, 8] (fun y i => ∃ j : Nat, m + j ≤ 15 ∧ i = .int .i64 (m + j : Nat) ∧ y = .int .i64 (2 ^ j : Nat)) (fun _ i => 15 - (intOf i).toNat)
            case atStart => exact ⟨0, by omega, rfl, rfl⟩
            case round =>
              obtain ⟨j, hj, rfl, rfl⟩ := hrel
              have hp : 2 ^ j ≤ 32768 := Nat.pow_le_pow_right (n := 2) (i := j) (j := 15) (by omega) (by omega)
              have hps := Lib.hid (pow_step j)
              by_cases hj2 : m + j < 15
              · have EJ := Lib.hid (show (2 ^ j : Nat) = 2 ^ j from rfl)
                generalize (2 ^ j : Nat) = P at *
                go_wp2
                go_round
                case rel => exact ⟨j + 1, by omega, by go_num, by rw [← hps.out]⟩
                case measure => simp [intOf]; omega
              · have EW : Hid (wt (m : Int) = 2 ^ j) := Lib.hid (by unfold wt; rw [if_neg (by omega)]; congr 1; omega)
                clear hps
                generalize (2 ^ j : Nat) = P at *
                go_wp2
                go_round
                case rel =>
                  refine ⟨k + 1, by omega, by go_num, ?_, ?_⟩
                  · rw [E1.out, HX.out, EW.out]; go_num
                  · rw [E3.out, HX.out]; exact ⟨HOK.out, by omega, by omega⟩
                case measure => simp [intOf]; omega
          · obtain rfl : m = 0 := by omega
            go_wp2
            go_round
            case rel =>
              refine ⟨k + 1, by omega, by go_num, ?_, ?_⟩
              · rw [E1.out, HX.out]; rfl
              · rw [E3.out, HX.out]; exact ⟨HOK.out, by omega, by omega⟩
            case measure => simp [intOf]; omega
        · have HK := Lib.hid (E4.out (by rw [hx]; omega))
          have HX := Lib.hid hx; clear hx
          have h15' : decide (15 < x) = true := by simp; omega
          go_wp2
          go_ret2
          exact ⟨rfl, rfl⟩
      · have HK := Lib.hid (E4.out (by rw [hx]; omega))
        have HX := Lib.hid hx; clear hx
        go_wp2
        go_ret2
        exact ⟨rfl, rfl⟩
    · obtain rfl : k = n := by omega
      have e : l.take k = l := List.take_of_length_le (by have := HN.out; omega)
      rw [e] at hw HOK ⊢
      clear e
      go_wp2
      go_ret2
      exact ⟨rfl, rfl⟩

set_option maxHeartbeats 1000000 in
theorem refKind_any (A : Option Addr) (n c B : Nat) (l : List Int) (hn : l.length = n) (hl : n ≤ 1000) (w : World) (hs : Seen w B 1 A n c (iv l)) :
    Calls Try.prog 57 #[.slice A n c] w fun e w' => e = .returned (.int .i64 (kindOf l : Nat)) ∧ w = w' := by
  have HS := Lib.hid hs; clear hs
  have HN := Lib.hid hn; clear hn
  have HK := Lib.hid (kind_doc l)
  go_enter Try.func57, Try.ntmps57
  go_wp2
  go_loop [3, 4, 11] (fun x y i => ∃ k : Nat, k ≤ n ∧ i = .int .i64 k ∧ x = .int .i64 (words (l.take k) : Nat) ∧ y = .int .i64 (ones (l.take k) : Nat)) (fun _ _ i => n - (intOf i).toNat)
  case atStart => exact ⟨0, Nat.zero_le _, rfl, rfl, rfl⟩
  case round =>
    obtain ⟨k, hk, rfl, rfl, rfl⟩ := hrel
    have hwd : words (l.take k) ≤ 1000 := by have := words_le (l.take k); simp at this; omega
    have hon : ones (l.take k) ≤ 1000 := by have := ones_le (l.take k); simp at this; omega
    by_cases hlt : k < n
    · obtain ⟨b, o, rfl, _, hc⟩ := HS.out.int HN.out hlt
      have hkl : k < l.length := by have := HN.out; omega
      have E1 := Lib.hid (ones_take l k hkl)
      have E2 := Lib.hid (words_take l k hkl)
      obtain ⟨x, hx⟩ : ∃ x, l[k] = x := ⟨_, rfl⟩
      rw [hx] at hc
      have HX := Lib.hid hx; clear hx
      generalize words (l.take k) = V at *
      generalize ones (l.take k) = O at *
      by_cases h0 : x = 0
      · subst h0
        go_wp2
        go_round
        case rel => exact ⟨k + 1, by omega, by go_num, by rw [E2.out, HX.out]; rfl, by rw [E1.out, HX.out]; rfl⟩
        case measure => simp [intOf]; omega
      · by_cases h1 : x = 1
        · subst h1
          go_wp2
          go_round
          case rel => exact ⟨k + 1, by omega, by go_num, by rw [E2.out, HX.out]; rfl, by rw [E1.out, HX.out]; rfl⟩
          case measure => simp [intOf]; omega
        · have d0 : (x == 0) = false := by simpa using h0
          have d1 : (x == 1) = false := by simpa using h1
          go_wp2
          go_round
          case rel => exact ⟨k + 1, by omega, by go_num, by rw [E2.out, HX.out, if_neg h0]; rfl, by rw [E1.out, HX.out, if_neg h1]; rfl⟩
          case measure => simp [intOf]; omega
    · obtain rfl : k = n := by omega
      have e : l.take k = l := List.take_of_length_le (by have := HN.out; omega)
      rw [e] at hwd hon ⊢
      clear e
      have hW : weight l ≤ 32768000 := by have := weight_le l; have := HN.out; omega
      by_cases hok : Ok l
      · have HC := Lib.hid (refWeight_any A k c B l HN.out hl w HS.out)
        rw [if_pos hok] at HC HK
        have HOK := Lib.hid hok; clear hok
        generalize weight l = W at *
        generalize words l = V at *
        generalize ones l = O at *
        by_cases h0 : V = 0
        · subst h0
          go_wp2_with (go_at_call 65; refine HC.out.mono ?_; rintro e w1 ⟨rfl, rfl⟩)
          go_ret
          exact ⟨by rw [HK.out]; rfl, rfl⟩
        · have d0 : ((V : Int) == 0) = false := by simp; omega
          by_cases h1 : V = 1 ∧ O = 1
          · obtain ⟨rfl, rfl⟩ := h1
            go_wp2_with (go_at_call 65; refine HC.out.mono ?_; rintro e w1 ⟨rfl, rfl⟩)
            go_ret
            exact ⟨by rw [HK.out]; rfl, rfl⟩
          · have HV : Hid (kindOf l = if W = 32768 then 3 else 0) := Lib.hid (by rw [HK.out, if_neg h0, if_neg h1])
            clear HK
            have hd : ((V : Int) == 1) = false ∨ ((V : Int) == 1) = true ∧ ((O : Int) == 1) = false := by
              by_cases h : V = 1
              · exact .inr ⟨by simp [h], by simp; intro h2; exact h1 ⟨h, by omega⟩⟩
              · exact .inl (by simp; omega)
            by_cases h3 : W = 32768
            · subst h3
              rcases hd with d1 | ⟨d1, d2⟩
              · go_wp2_with (go_at_call 65; refine HC.out.mono ?_; rintro e w1 ⟨rfl, rfl⟩)
                go_ret
                exact ⟨by rw [HV.out]; rfl, rfl⟩
              · go_wp2_with (go_at_call 65; refine HC.out.mono ?_; rintro e w1 ⟨rfl, rfl⟩)
                go_ret
                exact ⟨by rw [HV.out]; rfl, rfl⟩
            · have d3 : ((W : Int) == 32768) = false := by simp; omega
              rcases hd with d1 | ⟨d1, d2⟩
              · go_wp2_with (go_at_call 65; refine HC.out.mono ?_; rintro e w1 ⟨rfl, rfl⟩)
                go_ret
                exact ⟨by rw [HV.out, if_neg h3]; rfl, rfl⟩
              · go_wp2_with (go_at_call 65; refine HC.out.mono ?_; rintro e w1 ⟨rfl, rfl⟩)
                go_ret
                exact ⟨by rw [HV.out, if_neg h3]; rfl, rfl⟩
      · have HC := Lib.hid (refWeight_any A k c B l HN.out hl w HS.out)
        rw [if_neg hok] at HC HK
        clear hok
        go_wp2_with (go_at_call 65; refine HC.out.mono ?_; rintro e w1 ⟨rfl, rfl⟩)
        go_ret
        exact ⟨by rw [HK.out]; rfl, rfl⟩

end Go.Proofs.Ytobchlakjgeadaa
