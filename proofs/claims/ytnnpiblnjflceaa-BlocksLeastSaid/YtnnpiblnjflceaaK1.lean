/-
  Contracts of lengths.Kind and of the document's Weight and Kind. Conditions: at most a thousand lengths.
-/
import Derived.Test.YtnnpiblnjflceaaF
import Derived.Test.YtnnpiblnjflceaaZ1
namespace Go.Proofs.Ytnnpiblnjflceaa
open Go.RowKit

/-- Integers as values. -/
def iv (l : List Int) : List Value := l.map (Value.int .i64)
@[simp] theorem iv_length (l : List Int) : (iv l).length = l.length := by simp [iv]
theorem iv_get? {l : List Int} {i : Nat} (h : i < l.length) : (iv l)[i]? = some (.int .i64 l[i]) := by simp [iv, h]

/-- An integer of a slice that is read. -/
theorem Seen.int {w : World} {B : Nat} {A : Option Addr} {n c : Nat} {l : List Int} (h : Seen w B 1 A n c (iv l)) (hn : l.length = n) {k : Nat} (hk : k < n) :
    ∃ b o, A = some ⟨b, o, none⟩ ∧ b < B ∧ w.cell? ⟨b, o + k, none⟩ = some (.int .i64 (l[k]'(by omega))) := by
  obtain ⟨b, o, u, h1, h2, h3, h4⟩ := h.at hk
  rw [iv_get? (by omega)] at h3
  injection h3 with h3
  subst h3
  exact ⟨b, o, h1, h2, h4⟩

theorem shr_wt (m : Nat) (h0 : 0 < m) (h1 : m ≤ 15) : ((32768 : Int) / 2 ^ m) = (wt m : Nat) := by
  have : m = 1 ∨ m = 2 ∨ m = 3 ∨ m = 4 ∨ m = 5 ∨ m = 6 ∨ m = 7 ∨ m = 8 ∨ m = 9 ∨ m = 10 ∨ m = 11 ∨ m = 12 ∨ m = 13 ∨ m = 14 ∨ m = 15 := by omega
  rcases this with rfl | rfl | rfl | rfl | rfl | rfl | rfl | rfl | rfl | rfl | rfl | rfl | rfl | rfl | rfl <;> decide

set_option maxHeartbeats 1000000 in
theorem kind_any (A : Option Addr) (n c B : Nat) (l : List Int) (hn : l.length = n) (hl : n ≤ 1000) (w : World) (hs : Seen w B 1 A n c (iv l)) :
    Calls Try.prog 90 #[.slice A n c] w fun e w' => e = .returned (.int .i64 (kindOf l : Nat)) ∧ w = w' := by
  have HS := Lib.hid hs; clear hs
  have HN := Lib.hid hn; clear hn
  go_enter Try.func90, Try.ntmps90
  go_wp2
  go_loop [3, 4, 9] (fun x y i => ∃ k : Nat, k ≤ n ∧ i = .int .i64 k ∧ x = .int .i64 (words (l.take k) : Nat) ∧ y = .int .i64 (weight (l.take k) : Nat) ∧ weight (l.take k) ≤ 32768 ∧ Ok (l.take k)) (fun _ _ i => n - (intOf i).toNat)
  case atStart => exact ⟨0, Nat.zero_le _, rfl, rfl, rfl, by simp [weight], by intro x hx; simp at hx⟩
  case round =>
    obtain ⟨k, hk, rfl, rfl, rfl, hw, hok⟩ := hrel
    have HOK := Lib.hid hok; clear hok
    have hwd : words (l.take k) ≤ 1000 := by have := words_le (l.take k); simp at this; omega
    by_cases hlt : k < n
    · obtain ⟨b, o, rfl, _, hc⟩ := HS.out.int HN.out hlt
      have hkl : k < l.length := by have := HN.out; omega
      have E1 := Lib.hid (weight_take l k hkl)
      have E2 := Lib.hid (words_take l k hkl)
      have E3 := Lib.hid (ok_take l k hkl)
      have E4 := Lib.hid (@not_ok l k hkl)
      have E5 := Lib.hid (kind_over l (k + 1))
      obtain ⟨x, hx⟩ : ∃ x, l[k] = x := ⟨_, rfl⟩
      rw [hx] at hc
      by_cases h0 : 0 ≤ x
      · by_cases h15 : x ≤ 15
        · obtain ⟨m, rfl⟩ := Int.eq_ofNat_of_zero_le h0
          have HX := Lib.hid hx; clear hx
          by_cases hm : 0 < m
          · have es := shr_wt m hm (by omega)
            have hwt := wt_lt m (by omega)
            generalize weight (l.take k) = W at *
            generalize words (l.take k) = V at *
            obtain ⟨u, hu⟩ : ∃ u, wt (m : Int) = u := ⟨_, rfl⟩
            rw [hu] at es hwt
            have HU := Lib.hid hu; clear hu
            by_cases hov : 32768 < W + u
            · go_wp2
              go_ret
              refine ⟨?_, rfl⟩
              rw [E5.out (by rw [E1.out, HX.out, HU.out]; exact hov)]
              rfl
            · have hov' : (W : Int) + u ≤ 32768 := by omega
              go_wp2
              go_round
              case rel =>
                refine ⟨k + 1, by omega, by go_num, ?_, ?_, ?_, ?_⟩
                · rw [E2.out, HX.out, if_neg (by omega)]; go_num
                · rw [E1.out, HX.out, HU.out]; go_num
                · rw [E1.out, HX.out, HU.out]; omega
                · rw [E3.out, HX.out]; exact ⟨HOK.out, by omega, by omega⟩
              case measure => simp [intOf]; omega
          · obtain rfl : m = 0 := by omega
            go_wp2
            go_round
            case rel =>
              refine ⟨k + 1, by omega, by go_num, ?_, ?_, ?_, ?_⟩
              · rw [E2.out, HX.out]; rfl
              · rw [E1.out, HX.out]; rfl
              · rw [E1.out, HX.out]; exact hw
              · rw [E3.out, HX.out]; exact ⟨HOK.out, by omega, by omega⟩
            case measure => simp [intOf]; omega
        · have hk0 : kindOf l = 0 := by unfold kindOf; rw [if_neg (E4.out (by rw [hx]; omega))]
          have HK := Lib.hid hk0; clear hk0
          have HX := Lib.hid hx; clear hx
          have h15' : decide (15 < x) = true := by simp; omega
          go_wp2
          go_ret
          exact ⟨by rw [HK.out]; rfl, rfl⟩
      · have hk0 : kindOf l = 0 := by unfold kindOf; rw [if_neg (E4.out (by rw [hx]; omega))]
        have HK := Lib.hid hk0; clear hk0
        have HX := Lib.hid hx; clear hx
        go_wp2
        go_ret
        exact ⟨by rw [HK.out]; rfl, rfl⟩
    · obtain rfl : k = n := by omega
      have e : l.take k = l := List.take_of_length_le (by have := HN.out; omega)
      rw [e] at hw HOK hwd ⊢
      have hK : kindOf l = if words l = 0 then 1 else if words l = 1 ∧ weight l = 16384 then 2 else if weight l = 32768 then 3 else 0 := by unfold kindOf; rw [if_pos HOK.out]
      have HK := Lib.hid hK; clear hK e
      generalize weight l = W at *
      generalize words l = V at *
      by_cases h0 : V = 0
      · subst h0
        go_wp2
        go_ret
        exact ⟨by rw [HK.out]; rfl, rfl⟩
      · by_cases h1 : V = 1
        · subst h1
          by_cases h2 : W = 16384
          · subst h2
            go_wp2
            go_ret
            exact ⟨by rw [HK.out]; rfl, rfl⟩
          · by_cases h3 : W = 32768
            · subst h3
              go_wp2
              go_ret
              exact ⟨by rw [HK.out]; rfl, rfl⟩
            · have d2 : ((W : Int) == 16384) = false := by simp; omega
              have d3 : ((W : Int) == 32768) = false := by simp; omega
              go_wp2
              go_ret
              exact ⟨by rw [HK.out]; simp [h2, h3], rfl⟩
        · have d1 : ((V : Int) == 1) = false := by simp; omega
          have d0 : ((V : Int) == 0) = false := by simp; omega
          by_cases h3 : W = 32768
          · subst h3
            go_wp2
            go_ret
            exact ⟨by rw [HK.out]; simp [h0, h1], rfl⟩
          · have d3 : ((W : Int) == 32768) = false := by simp; omega
            go_wp2
            go_ret
            exact ⟨by rw [HK.out]; simp [h0, h1, h3], rfl⟩

end Go.Proofs.Ytnnpiblnjflceaa
