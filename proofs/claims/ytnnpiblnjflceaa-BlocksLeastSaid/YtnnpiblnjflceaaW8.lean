/-
  Contracts of prefix: Put. Conditions: a right code of at most a thousand signs, at most a million bits.
-/
import Derived.Test.YtnnpiblnjflceaaW5
import Derived.Test.YtnnpiblnjflceaaZ4
namespace Go.Proofs.Ytnnpiblnjflceaa
open Go.RowKit

theorem cc_lens (l : List Int) (n : Nat) (A1 : Option Addr) (c1 : Nat) (A2 : Option Addr) (c2 : Nat) (A3 : Option Addr) (c3 : Nat) :
    (cc l n A1 c1 A2 c2 A3 c3)[0]? = some (.slice A1 n c1) ∧ (cc l n A1 c1 A2 c2 A3 c3)[1]? = some (.slice A2 n c2) := by
  unfold cc
  rw [Array.getElem?_append_left (by simp), Array.getElem?_append_left (by simp), Array.getElem?_append_left (by simp), Array.getElem?_append_left (by simp)]
  exact ⟨rfl, rfl⟩

theorem codePut_no (B g : Nat) (l : List Int) (n : Nat) (hn : l.length = n) (hr : kindOf l ≠ 0) (v : Value) (s : Int) (w : World) (hc : CodeAt w B g l n) (hs : s < 0 ∨ (n : Int) ≤ s ∨ len l s.toNat = 0) :
    Calls Try.prog 58 #[.pointer (some ⟨g, 0, none⟩), v, .int .i64 s] w fun e w' => e = .returned (.int .i64 5) ∧ w = w' := by
  obtain ⟨A1, c1, A2, c2, A3, c3, h1, h2, h3, h4, h5, h6⟩ := hc
  have hcs : w.cell? ⟨g, 0, none⟩ = some (.slice A1 n c1) := (h1.cell 0).trans (cc_lens l n A1 c1 A2 c2 A3 c3).1
  have HOK := Lib.hid (right_ok hr)
  clear hr h1 h5 h6
  have H4 := Lib.hid h4; clear h4
  have HN := Lib.hid hn; clear hn
  by_cases h0 : s < 0
  · clear hs
    have d0 : decide (s < 0) = true := by simpa using h0
    go_enter Try.func58, Try.ntmps58
    go_wp2
    go_ret
    exact ⟨rfl, rfl⟩
  · obtain ⟨j, rfl⟩ := Int.eq_ofNat_of_zero_le (Int.not_lt.1 h0)
    by_cases hj : n ≤ j
    · clear hs
      go_enter Try.func58, Try.ntmps58
      go_wp2
      go_ret
      exact ⟨rfl, rfl⟩
    · have h00 : len l j = 0 := by simpa [hj, h0] using (hs.resolve_left h0).resolve_left (by omega)
      obtain ⟨b, o, rfl, _, hcj⟩ := H4.out.int HN.out (k := j) (by omega)
      rw [len_eq HOK.out j (by rw [HN.out]; omega), h00] at hcj
      clear hs h00
      go_enter Try.func58, Try.ntmps58
      go_wp2
      go_ret
      exact ⟨rfl, rfl⟩

set_option maxHeartbeats 1000000 in
theorem codePut_yes (B g : Nat) (l : List Int) (n : Nat) (hn : l.length = n) (hr : kindOf l ≠ 0) (Bw gw : Nat) (sv : Value) (bits : List Bool) (j : Nat) (w : World) (hc : CodeAt w B g l n) (hW : WriterAt w Bw gw sv bits) (hb : bits.length ≤ 1000000)
    (hj : j < n) (h0 : len l j ≠ 0) :
    Calls Try.prog 58 #[.pointer (some ⟨g, 0, none⟩), .pointer (some ⟨gw, 0, none⟩), .int .i64 j] w fun e w' => e = .returned (.int .i64 0) ∧ PutPost w Bw gw sv (bits ++ wb l j) w' := by
  obtain ⟨A1, c1, A2, c2, A3, c3, h1, h2, h3, h4, h5, h6⟩ := hc
  have hcs : w.cell? ⟨g, 0, none⟩ = some (.slice A1 n c1) := (h1.cell 0).trans (cc_lens l n A1 c1 A2 c2 A3 c3).1
  have hct : w.cell? ⟨g, 1, none⟩ = some (.slice A2 n c2) := (h1.cell 1).trans (cc_lens l n A1 c1 A2 c2 A3 c3).2
  have HOK := Lib.hid (right_ok hr)
  obtain ⟨b, o, rfl, _, hcj⟩ := h4.int hn hj
  obtain ⟨b2, o2, u, rfl, _, q3, q4⟩ := h5.at hj
  have hu : u = .int .u32 (wv l j : Nat) := by
    unfold wrow at q3
    rw [mr_get _ _ _ hj, if_pos hj] at q3
    injection q3 with q3; exact q3.symm
  subst hu
  rw [len_eq HOK.out j (by omega)] at hcj
  have hl15 := len_le HOK.out j
  have hwv := wv_32768 hr j (by omega)
  have HWB : Hid (bitsOf (rev (wv l j) (len l j)) (len l j) = wb l j) := Lib.hid (by
    have h := bitsOf_num (bitsOf (wv l j) (len l j)).reverse
    rw [List.length_reverse, bitsOf_length] at h
    exact h)
  have HREV : Hid (rev (wv l j) (len l j) < 32768) := Lib.hid (by have := rev_lt (wv l j) (len l j); have := pow_le15 hl15; omega)
  have HW := Lib.hid hW; clear hW
  clear hr h1 h4 h5 h6 q3
  obtain ⟨m, hm⟩ : ∃ m, len l j = m := ⟨_, rfl⟩
  obtain ⟨x, hx⟩ : ∃ x, wv l j = x := ⟨_, rfl⟩
  rw [hm] at hcj hl15 h0 HWB HREV
  rw [hx] at q4 hwv HWB HREV
  clear hm hx
  have d0 : (m == 0) = false := by simpa using h0
  have d0' : ((m : Int) == 0) = false := by simp; omega
  go_enter Try.func58, Try.ntmps58
  go_wp2_with (first
    | (go_at_call 67; refine (reverse_yes x m (by omega) (by omega) _).mono ?_; rintro e w1 ⟨rfl, rfl⟩)
    | (go_at_call 13; refine (put_yes (rev x m) m Bw gw sv bits (by have := HREV.out; omega) (by omega) _ HW.out hb).mono ?_; rintro e w1 ⟨rfl, hP⟩; rw [HWB.out] at hP; have HP := Lib.hid hP; clear hP))
  go_ret
  exact ⟨rfl, HP.out⟩
end Go.Proofs.Ytnnpiblnjflceaa
