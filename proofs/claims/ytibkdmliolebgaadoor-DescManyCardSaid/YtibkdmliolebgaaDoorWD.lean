/-
  The program's Units and Right. Conditions: a row of at most a hundred thousand bytes.
-/
import Derived.Test.YtibkdmliolebgaaDoorWC
namespace Go.Proofs.YtibkdmliolebgaaDoor
open Go Go.RowKit
set_option maxRecDepth 100000

theorem tx_drop (l : List UInt8) (m n : Nat) (h : l.length ≤ n) : (tx l).extract m n = tx (l.drop m) := by
  rw [tx_cut, List.take_of_length_le h]
theorem tx_nil {l : List UInt8} (h : l = []) : ((tx l).toList == []) = true := by rw [ByteArray.toList_eq, tx_list, beq_iff_eq]; exact h
theorem tx_some {l : List UInt8} (h : l ≠ []) : ((tx l).toList == []) = false := by
  rw [ByteArray.toList_eq, beq_eq_false_iff_ne, tx_list]; exact h
theorem tx_empty (l : List UInt8) : (tx l).toList.isEmpty = decide (l.length = 0) := by rw [ba_empty, tx_size]
theorem fu_le {s : List UInt8} {v m : Nat} (h : fuM s = (v, m)) : v < 65536 ∧ m ≤ s.length := by
  by_cases hm : m = 0
  · subst hm
    refine ⟨?_, Nat.zero_le _⟩
    unfold fuM at h
    split at h
    · injection h with h1 _; omega
    rename_i hl
    split at h
    · injection h with h1 _; omega
    · split at h
      · injection h with _ h2; omega
      · injection h with h1 _; omega
  · obtain ⟨h1, h2, r, rfl⟩ := fu_inv h hm
    exact ⟨h1, by rw [h2]; simp⟩

set_option maxHeartbeats 8000000 in
theorem pright_any (l : List UInt8) (n : Nat) (hn : l.length = n) (hs : n ≤ 100000) (w : World) : Calls Tryd.prog 26 #[.string (tx l)] w (Rets w (.bool (unitsM l).isSome)) := by
  go_enter Tryd.func26, Tryd.ntmps26
  go_wp2
  go_loopg [0] n (fun j v0 wr => ∃ (s : List UInt8) (p : List Nat), s.length = j ∧ v0 = .string (tx s) ∧ wr = w ∧ unitsM l = dU p s ∧ j ≤ n)
  case atStart => exact ⟨l, [], hn, rfl, rfl, rfl, by omega⟩
  case round =>
    obtain ⟨s, p, hj, rfl, rfl, hU, hpl⟩ := hrel
    have HU := Lib.hid hU
    clear hU
    have hts : (tx s).size = gk := by rw [tx_size, hj]
    by_cases h0 : s = []
    · have e0 := tx_nil h0
      have e1 : (tx s).toList.isEmpty = true := by rw [tx_empty, h0]; rfl
      have hr : unitsM l = some p := by rw [HU.out, h0, dU]
      have HR := Lib.hid hr
      clear hr h0
      go_wp2
      go_ret
      rw [HR.out]
      exact ⟨rfl, rfl⟩
    have hgk : 0 < gk := by
      rcases Nat.eq_zero_or_pos gk with h | h
      · exact absurd (List.eq_nil_of_length_eq_zero (by omega)) h0
      · exact h
    have e0 := tx_some h0
    have e1 : (tx s).toList.isEmpty = false := by rw [tx_empty, decide_eq_false_iff_not]; omega
    have CF := Lib.hid (fun W => firstUnit_any s gk hj hgk (by omega) W)
    obtain ⟨fu, hfu⟩ : ∃ h, fuM s = h := ⟨_, rfl⟩
    rw [hfu] at CF
    obtain ⟨v, m⟩ := fu
    simp only at CF
    have hle := fu_le hfu
    rw [hj] at hle
    have HF := Lib.hid hfu
    have H0 := Lib.hid h0
    clear hfu h0
    go_wp2_with fail
    refine (CF.out _).mono ?_
    rintro e w1 ⟨rfl, rfl⟩
    by_cases hm : m = 0
    · subst hm
      have hr : unitsM l = none := by rw [HU.out]; exact dU_none HF.out H0.out
      have HR := Lib.hid hr
      clear hr
      go_wp2_with fail
      go_ret
      rw [HR.out]
      exact ⟨rfl, rfl⟩
    have f0 : decide ((m : Int) = 0) = false := by rw [decide_eq_false_iff_not]; omega
    have f0b : ((m : Int) == 0) = false := by rw [beq_eq_false_iff_ne]; omega
    have HR := Lib.hid (HU.out.trans (dU_unit HF.out hm))
    have hx := tx_drop s m gk (by omega)
    have hmz : (m : Int) ≤ (gk : Int) := by omega
    go_wp2_with fail
    go_roundg (gk - m)
    case measure => omega
    case rel =>
      exact ⟨s.drop m, p ++ [v], by rw [List.length_drop, hj], by rfl, by rfl, HR.out, by omega⟩
end Go.Proofs.YtibkdmliolebgaaDoor
