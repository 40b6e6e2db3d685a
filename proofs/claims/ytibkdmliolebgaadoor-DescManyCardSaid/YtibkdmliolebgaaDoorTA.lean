/-
  The program's Dims, by the library's TrimLeft of one sign; CutPrefix of one sign. Conditions: texts of at most a hundred thousand bytes.
-/
import Derived.Test.YtibkdmliolebgaaDoorVE
import Derived.Test.YtibkdmliolebgaaDoorWD
namespace Go.Proofs.YtibkdmliolebgaaDoor
open Go Go.RowKit
set_option maxRecDepth 100000

theorem dimsM_cons (t : List UInt8) : dimsM (91 :: t) = dimsM t + 1 := by simp [dimsM]
theorem dimsM_nil : dimsM [] = 0 := rfl
theorem dimsM_no {l : List UInt8} (h : 0 < l.length) (hx : l[0] ≠ 91) : dimsM l = 0 := by
  cases l with
  | nil => rfl
  | cons a t => simp at hx; simp [dimsM, hx]

set_option maxHeartbeats 4000000 in
theorem trimB_any (l : List UInt8) (n : Nat) (hn : l.length = n) (w : World) : Calls Tryd.prog 40 #[.string (tx l), .int .u8 91] w (Rets w (.string (tx (l.drop (dimsM l))))) := by
  obtain ⟨R, hR⟩ : ∃ r, l.drop (dimsM l) = r := ⟨_, rfl⟩
  rw [hR]
  have HR := Lib.hid hR
  clear hR
  go_enter Tryd.func40, Tryd.ntmps40
  go_wp2
  go_loopg [0] n (fun j v0 wr => ∃ (s : List UInt8), s.length = j ∧ v0 = .string (tx s) ∧ wr = w ∧ s.drop (dimsM s) = R ∧ j ≤ n)
  case atStart => exact ⟨l, hn, rfl, rfl, HR.out, Nat.le_refl _⟩
  case round =>
    obtain ⟨s, hj, rfl, rfl, hU, hpl⟩ := hrel
    have HU := Lib.hid hU
    clear hU
    have hts : (tx s).size = gk := by rw [tx_size, hj]
    by_cases h0 : s = []
    · have e1 : ¬ 0 < gk := by rw [← hj, h0]; simp
      have hr : s = R := by rw [← HU.out, h0]; rfl
      have H0 := Lib.hid (And.intro h0 hr)
      clear h0 hr
      go_wp2_with fail
      go_ret
      exact ⟨by rw [H0.out.2]; rfl, rfl⟩
    have hgk : 0 < gk := by
      rcases Nat.eq_zero_or_pos gk with h | h
      · exact absurd (List.eq_nil_of_length_eq_zero (by omega)) h0
      · exact h
    have e0 : 0 < s.length := by omega
    have e1 : decide ((0 : Int) < (gk : Int)) = true := by rw [decide_eq_true_iff]; omega
    obtain ⟨x, hx⟩ : ∃ x, s[0].toNat = x := ⟨_, rfl⟩
    have hxt : ((tx s)[0]'(by rw [hts]; exact hgk)).toNat = x := by rw [tx_at]; exact hx
    have hcut := tx_cut s 1 gk
    rw [List.take_of_length_le (by omega)] at hcut
    have i1 : (1 : Int) ≤ (gk : Int) := by omega
    by_cases h91 : x = 91
    · have d1 : ((x : Int) == 91) = true := by rw [h91]; rfl
      have hnx : (s.drop 1).drop (dimsM (s.drop 1)) = R := by
        rw [← HU.out]
        cases s with
        | nil => exact absurd rfl h0
        | cons a t =>
          obtain rfl : a = 91 := UInt8.toNat_inj.1 (hx.trans h91)
          rw [dimsM_cons]; rfl
      have HN := Lib.hid (And.intro hnx (And.intro h0 (And.intro hx h91)))
      clear hnx h0 hx h91
      go_wp2_with fail
      go_roundg (gk - 1)
      case measure => omega
      case rel => exact ⟨s.drop 1, by rw [List.length_drop, hj], by rw [List.drop_one], rfl, HN.out.1, by omega⟩
    · have d1 : ((x : Int) == 91) = false := by rw [beq_eq_false_iff_ne]; omega
      have hr : s = R := by
        rw [← HU.out, dimsM_no e0 (fun e => h91 (by rw [← hx, e]; rfl))]; rfl
      have H0 := Lib.hid (And.intro h0 (And.intro hr (And.intro hx h91)))
      clear h0 hr hx h91
      go_wp2_with fail
      go_ret
      exact ⟨by rw [H0.out.2.1]; rfl, rfl⟩

theorem lb_lit : tx [91] = ⟨#[91]⟩ := rfl
set_option maxHeartbeats 4000000 in
theorem trim_any (l : List UInt8) (w : World) : Calls Tryd.prog 32 #[.string (tx l), .string ⟨#[91]⟩] w (Rets w (.string (tx (l.drop (dimsM l))))) := by
  have C := Lib.hid (fun W => trimB_any l l.length rfl W)
  have he := tl_empty l
  by_cases h0 : l = []
  · rw [decide_eq_true h0] at he
    obtain ⟨R, hR⟩ : ∃ r, l.drop (dimsM l) = r := ⟨_, rfl⟩
    rw [hR]
    have HR : Hid (l = R) := Lib.hid (by rw [← hR, h0]; rfl)
    clear hR h0 C
    go_enter Tryd.func32, Tryd.ntmps32
    go_wp2_with fail
    go_ret
    exact ⟨by rw [HR.out]; rfl, rfl⟩
  · rw [decide_eq_false h0] at he
    obtain ⟨R, hR⟩ : ∃ r, l.drop (dimsM l) = r := ⟨_, rfl⟩
    rw [hR] at C ⊢
    clear hR h0
    go_enter Tryd.func32, Tryd.ntmps32
    go_wp2_with (go_at_call 40; refine (C.out _).mono ?_; rintro e w1 ⟨rfl, rfl⟩)
    go_ret
    exact ⟨rfl, rfl⟩

set_option maxHeartbeats 4000000 in
theorem pdims_any (l : List UInt8) (hs : l.length ≤ 100000) (w : World) : Calls Tryd.prog 19 #[.string (tx l)] w (Rets w (.int .i64 (dimsM l))) := by
  have C := Lib.hid (fun W => trim_any l W)
  have hd := dims_le l
  obtain ⟨n, hn⟩ : ∃ n, l.length = n := ⟨_, rfl⟩
  obtain ⟨d, hd2⟩ : ∃ d, dimsM l = d := ⟨_, rfl⟩
  have hts : (tx l).size = n := by rw [tx_size, hn]
  have hts2 : (tx (l.drop d)).size = n - d := by rw [tx_size, List.length_drop, hn]
  rw [hd2] at C hd ⊢
  obtain ⟨m, hm⟩ : ∃ m, n - d = m := ⟨_, rfl⟩
  rw [hm] at hts2
  rw [hn] at hd hs
  have q1 : IntKind.i64.wrap ((n : Int) - (m : Int)) = (d : Int) := by rw [IntWalk.i64_in _ (by omega)]; omega
  have q2 : wrap64 ((n : Int) - (m : Int)) = (d : Int) := by rw [IntWalk.wrap64_in _ (by omega)]; omega
  clear hn hd2 hm
  generalize tx (l.drop d) = S at *
  go_enter Tryd.func19, Tryd.ntmps19
  go_wp2_with (go_at_call 32; refine (C.out _).mono ?_; rintro e w1 ⟨rfl, rfl⟩)
  go_ret
  exact ⟨rfl, rfl⟩
end Go.Proofs.YtibkdmliolebgaaDoor
