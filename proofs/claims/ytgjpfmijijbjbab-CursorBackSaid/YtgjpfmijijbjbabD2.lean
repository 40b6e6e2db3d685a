/-
  The walk of CursorBack: it answers true, and changes nothing that was there. Conditions: none.
-/
import Derived.Test.YtgjpfmijijbjbabD1
namespace Go.Proofs.Ytgjpfmijijbjbab
open Go.RowKit

theorem little_at (A : Option Addr) (m c B : Nat) (bs : List Nat) (hm : bs.length = m) (w : World) (hs : Seen w B 1 A m c (bv bs)) (hB : B ≤ w.heap.size) (hn : m ≤ 1000000) (v : Nat) (k : Nat) (hk : k ≤ 8) (n : Int) (hw : (Wide n ∧ n = k) ∨ (¬ Wide n ∧ k = 0)) :
    Calls Try.prog 14 #[.slice A m c, .int .u64 v, .int .i64 n] w (GivesBlock w (bs ++ leb v k)) := by
  subst hm
  exact little_go A c B bs w hs hB hn v k hk n hw
theorem newC_at (A : Option Addr) (m c B : Nat) (bs : List Nat) (hm : bs.length = m) (w : World) (hs : Seen w B 1 A m c (bv bs)) (hB : B ≤ w.heap.size) (hl : m ≤ 1000000) :
    Calls Try.prog 13 #[.slice A m c] w (NewC w bs) := by
  subst hm
  exact newC_any A c B bs w hs hB hl

set_option maxHeartbeats 4000000 in
set_option maxRecDepth 100000 in
theorem cursorBack_yes (v w0 k : Nat) (h : Wide k) (w : World) :
    Calls Try.prog 3 #[.int .u64 v, .int .u64 w0, .int .i64 k] w (LawPost w) := by
  have hk8 : 0 < k ∧ k ≤ 8 := by rcases h with h | h | h | h <;> omega
  obtain ⟨hk0, hk8⟩ := hk8
  obtain ⟨t, ht⟩ : ∃ t, 64 - 8 * k = t := ⟨_, rfl⟩
  have et : 64 - 8 * (k : Int) = t := by omega
  have HT := Lib.hid (show t + 8 * k = 64 by omega)
  have ht56 : t ≤ 56 := by omega
  clear ht
  have HW := Lib.hid h
  have hcase : (((k : Int) != 1) = false) ∨ ((((k : Int) != 1) = true) ∧ (((k : Int) != 2) = false)) ∨ ((((k : Int) != 1) = true) ∧ (((k : Int) != 2) = true) ∧ (((k : Int) != 4) = false)) ∨ ((((k : Int) != 1) = true) ∧ (((k : Int) != 2) = true) ∧ (((k : Int) != 4) = true) ∧ (((k : Int) != 8) = false)) := by
    rcases h with h | h | h | h
    · exact .inl (by simp [h])
    · exact .inr (.inl ⟨by simp [h], by simp [h]⟩)
    · exact .inr (.inr (.inl ⟨by simp [h], by simp [h], by simp [h]⟩))
    · exact .inr (.inr (.inr ⟨by simp [h], by simp [h], by simp [h], by simp [h]⟩))
  clear h
  rcases hcase with h1 | ⟨h1, h2⟩ | ⟨h1, h2, h4⟩ | ⟨h1, h2, h4, h8⟩
  all_goals
    go_enter Try.func3, Try.ntmps3
    go_wp2_with (first | (go_at_call 4; refine (fixed2_yes _).mono ?_; rintro e w1 ⟨rfl, hb1⟩) | (go_at_call 5; refine (failC_nil 2 _).mono ?_; rintro e w2 ⟨rfl, rfl⟩) | (go_at_call 6; refine (errC_nil _).mono ?_; rintro e w2 ⟨rfl, rfl⟩) | (go_at_call 7; refine (endC_nil _).mono ?_; rintro e w2 ⟨rfl, rfl⟩) | (go_at_call 8; refine (bigC_nil _).mono ?_; rintro e w2 ⟨rfl, rfl⟩) | (go_at_call 9; refine (littleC_nil _).mono ?_; rintro e w2 ⟨rfl, rfl⟩) | (go_at_call 10; refine (takeC_nil _).mono ?_; rintro e w2 ⟨rfl, rfl⟩) | (go_at_call 11; refine (leftC_nil _).mono ?_; rintro e w2 ⟨rfl, rfl⟩) | (go_at_call 12; refine (atC_nil _).mono ?_; rintro e w2 ⟨rfl, rfl⟩) | (go_at_call 15; fail))
    refine (big_go none 0 0 [] _ (seen_nil _ _) (Nat.zero_le _) (by simp) v k (by omega) k (.inl ⟨HW.out, rfl⟩)).mono ?_; rintro e w2 ⟨g2, rfl, hW2, hg2, hb2⟩
    rw [List.nil_append] at hW2 ⊢
    have hl2 : (leb v k).reverse.length = k := by simp
    have hs2 := seen_block hW2
    rw [hl2] at hs2
    have HS2 := Lib.hid hs2
    have HB2 := Lib.hid (hb1.trans (hb2.mono hb1.size))
    clear hW2 hb2 hb1 hs2 hl2
    go_wp2_with fail
    refine (little_at _ k _ _ (leb v k).reverse (by simp) _ HS2.out (Nat.le_refl _) (by omega) w0 k (by omega) k (.inl ⟨HW.out, rfl⟩)).mono ?_; rintro e w3 ⟨g3, rfl, hW3, hg3, hb3⟩
    have hl3 : ((leb v k).reverse ++ leb w0 k).length = k + k := by simp
    have hs3 := seen_block hW3
    rw [hl3] at hs3 ⊢
    have HS3 := Lib.hid hs3
    have HB3 := Lib.hid (HB2.out.trans (hb3.mono HB2.out.size))
    clear hW3 hb3 hs3 hl3
    go_wp2_with fail
    refine (newC_at _ (k + k) _ _ ((leb v k).reverse ++ leb w0 k) (by simp) _ HS3.out (Nat.le_refl _) (by omega)).mono ?_; rintro e w4 ⟨g, sv, rfl, hC4, hb4⟩
    have HC4 := Lib.hid hC4
    have HB4 := Lib.hid (HB3.out.trans (hb4.mono HB3.out.size))
    have hgw : w.heap.size ≤ g := Nat.le_trans HB3.out.size hC4.1
    clear hC4 hb4
    go_wp2_with fail
    have hm1 : decide (Wide (k : Int)) = true := decide_eq_true HW.out
    have hby : ∀ x ∈ ((leb v k).reverse ++ leb w0 k), x < 256 := by
      intro x hx
      rcases List.mem_append.1 hx with hx | hx
      · exact leb_lt v k x (List.mem_reverse.1 hx)
      · exact leb_lt w0 k x hx
    have hn1 := nxt_first (leb v k).reverse (leb w0 k) k (by simp)
    have hn2 := nxt_last (leb v k).reverse (leb w0 k) k (by simp) (by simp)
    refine (bigC_any _ g sv _ 0 0 k _ HC4.out (by simp; omega) (Nat.zero_le _) hby).mono ?_; rintro e w5 ⟨rfl, hC5, hO5⟩
    rw [hm1, hn1] at hC5 ⊢
    rw [show big_ ((leb v k).reverse, k, (0 : Int)).1 = v % 256 ^ k by rw [big_reverse, len_leb]]
    have sh1 := Lib.hid (shifts v k t HT.out)
    generalize v % 256 ^ k = x1 at sh1 ⊢
    have HC5 := Lib.hid hC5
    have HB5 := Lib.hid (HB4.out.trans (hO5.below HB4.out.size (fun i hi => by omega)))
    have HBy := Lib.hid hby
    have HN2 := Lib.hid hn2
    have HM1 := Lib.hid hm1
    clear hC5 hO5 hn1 hby hn2 hm1
    go_wp2_with fail
    refine (littleC_any _ g sv _ k 0 k _ HC5.out (by simp; omega) (by simp) HBy.out).mono ?_; rintro e w6 ⟨rfl, hC6, hO6⟩
    rw [HM1.out, HN2.out] at hC6 ⊢
    rw [show len_ (leb w0 k, k + k, (0 : Int)).1 = w0 % 256 ^ k from len_leb w0 k]
    have sh2 := Lib.hid (shifts w0 k t HT.out)
    generalize w0 % 256 ^ k = x2 at sh2 ⊢
    have HC6 := Lib.hid hC6
    have HB6 := Lib.hid (HB5.out.trans (hO6.below HB5.out.size (fun i hi => by omega)))
    clear hC6 hO6
    have eq1 : ((x1 : Int) == IntKind.u64.wrap ((v : Int) * 2 ^ t) / 2 ^ t) = true := by simpa using sh1.out
    have eq2 : ((x2 : Int) == IntKind.u64.wrap ((w0 : Int) * 2 ^ t) / 2 ^ t) = true := by simpa using sh2.out
    have wt : IntKind.u64.wrap (t : Int) = t := IntWalk.u64_in _ (by omega)
    have he0 : endErr ((leb v k).reverse ++ leb w0 k) (k + k) 0 = 0 := by
      unfold endErr
      rw [if_neg (by simp)]
    go_wp2_with fail
    refine (endC_any _ g sv _ (k + k) 0 _ HC6.out (by simp; omega) (by simp)).mono ?_; rintro e w7 ⟨rfl, hC7, hO7⟩
    rw [he0]
    go_wp2_with fail
    go_ret
    exact ⟨rfl, HB6.out.trans (hO7.below HB6.out.size (fun i hi => by omega))⟩

theorem u64_of_wf {x : Int} (h : (Lit.int .u64 x).wf = true) : 0 ≤ x ∧ x < 18446744073709551616 := by
  simp [Lit.wf, IntKind.min, IntKind.max, IntKind.signed, IntKind.bits] at h
  omega
theorem cursorBack_law (v w0 n : Int) (hv : (Lit.int .u64 v).wf = true) (hw : (Lit.int .u64 w0).wf = true) (w : World) :
    Calls Try.prog 3 #[.int .u64 v, .int .u64 w0, .int .i64 n] w (LawPost w) := by
  obtain ⟨v, rfl⟩ := Int.eq_ofNat_of_zero_le (u64_of_wf hv).1
  obtain ⟨w0, rfl⟩ := Int.eq_ofNat_of_zero_le (u64_of_wf hw).1
  by_cases h : Wide n
  · obtain ⟨k, rfl, _, _⟩ := h.nat
    exact cursorBack_yes v w0 k h w
  · exact cursorBack_no v w0 n h w
end Go.Proofs.Ytgjpfmijijbjbab
