/-
  The program's flatSize, fieldSize, Field, Room, Named. Conditions: texts of at most a hundred thousand bytes.
-/
import Derived.Test.YtibkdmliolebgaaDoorTG
namespace Go.Proofs.YtibkdmliolebgaaDoor
open Go Go.RowKit
set_option maxRecDepth 100000

theorem flat_letter {x : UInt8} (t : List UInt8) (h : letters.contains x = true) : flatM (x :: t) = 1 := by rw [flatM, if_pos h]
theorem flat_L (t : List UInt8) : flatM (76 :: t) = if (cutM t 59).2.2 && classM (cutM t 59).1 then (cutM t 59).1.length + 2 else 0 := by rw [flatM, if_neg (by decide), if_pos rfl]
theorem flat_no {x : UInt8} (t : List UInt8) (h : letters.contains x = false) (h2 : x ≠ 76) : flatM (x :: t) = 0 := by rw [flatM, if_neg (by rw [h]; decide), if_neg h2]
theorem b_of {x : UInt8} {y n : Nat} (hx : x.toNat = y) (h : y = n) (hn : n < 256) : x = UInt8.ofNat n := by
  subst h; rw [← hx, UInt8.ofNat_toNat]
theorem cut_le (t : List UInt8) (c : UInt8) : (cutM t c).1.length ≤ t.length := by
  unfold cutM; split
  · exact Nat.le_refl _
  · simp; omega

set_option maxHeartbeats 8000000 in
theorem flat_any (r : List UInt8) (hs : r.length ≤ 100000) (w : World) : Calls Tryd.prog 39 #[.string (tx r)] w (Gives w (.int .i64 (flatM r : Nat))) := by
  have he := tl_empty r
  cases r with
  | nil =>
    rw [decide_eq_true rfl] at he
    show Calls _ _ _ _ (Gives w (.int .i64 0))
    generalize tx [] = s at *
    go_enter Tryd.func39, Tryd.ntmps39
    go_wp2_with fail
    go_ret
    exact ⟨rfl, Below.refl _ _⟩
  | cons x t =>
    rw [decide_eq_false (by simp)] at he
    obtain ⟨n, hn⟩ : ∃ n, (x :: t).length = n := ⟨_, rfl⟩
    have hts : (tx (x :: t)).size = n := by rw [tx_size, hn]
    have hn0 : 0 < n := by rw [← hn]; simp
    have e0 : 0 < (tx (x :: t)).size := by rw [hts]; exact hn0
    obtain ⟨y, hy⟩ : ∃ y, x.toNat = y := ⟨_, rfl⟩
    have hyt : ((tx (x :: t))[0]'e0).toNat = y := by rw [tx_at]; exact hy
    have hn1 : (0 : Int) < (n : Int) := by omega
    have hn2 : (1 : Int) ≤ (n : Int) := by omega
    have ht := tx_cut (x :: t) 1 n
    rw [List.take_of_length_le (by omega), List.drop_succ_cons, List.drop_zero] at ht
    obtain ⟨R, hR⟩ : ∃ r, flatM (x :: t) = r := ⟨_, rfl⟩
    rw [hR]
    rw [hn] at hs
    have htl : t.length + 1 = n := by rw [← hn]; simp
    clear hn
    by_cases h66 : y = 66
    · have hr : R = 1 := by rw [← hR, b_of hy h66 (by decide)]; exact flat_letter t (by decide)
      subst hr
      have f66 : ((y : Int) == 66) = true := by rw [h66]; rfl
      clear h66 hR hy ht
      generalize tx (x :: t) = s at *
      go_enter Tryd.func39, Tryd.ntmps39
      go_wp2_with fail
      go_ret
      exact ⟨rfl, Below.refl _ _⟩
    by_cases h67 : y = 67
    · have hr : R = 1 := by rw [← hR, b_of hy h67 (by decide)]; exact flat_letter t (by decide)
      subst hr
      have f66 : ((y : Int) == 66) = false := by rw [beq_eq_false_iff_ne]; omega
      have f67 : ((y : Int) == 67) = true := by rw [h67]; rfl
      clear h66 h67 hR hy ht
      generalize tx (x :: t) = s at *
      go_enter Tryd.func39, Tryd.ntmps39
      go_wp2_with fail
      go_ret
      exact ⟨rfl, Below.refl _ _⟩
    by_cases h68 : y = 68
    · have hr : R = 1 := by rw [← hR, b_of hy h68 (by decide)]; exact flat_letter t (by decide)
      subst hr
      have f66 : ((y : Int) == 66) = false := by rw [beq_eq_false_iff_ne]; omega
      have f67 : ((y : Int) == 67) = false := by rw [beq_eq_false_iff_ne]; omega
      have f68 : ((y : Int) == 68) = true := by rw [h68]; rfl
      clear h66 h67 h68 hR hy ht
      generalize tx (x :: t) = s at *
      go_enter Tryd.func39, Tryd.ntmps39
      go_wp2_with fail
      go_ret
      exact ⟨rfl, Below.refl _ _⟩
    by_cases h70 : y = 70
    · have hr : R = 1 := by rw [← hR, b_of hy h70 (by decide)]; exact flat_letter t (by decide)
      subst hr
      have f66 : ((y : Int) == 66) = false := by rw [beq_eq_false_iff_ne]; omega
      have f67 : ((y : Int) == 67) = false := by rw [beq_eq_false_iff_ne]; omega
      have f68 : ((y : Int) == 68) = false := by rw [beq_eq_false_iff_ne]; omega
      have f70 : ((y : Int) == 70) = true := by rw [h70]; rfl
      clear h66 h67 h68 h70 hR hy ht
      generalize tx (x :: t) = s at *
      go_enter Tryd.func39, Tryd.ntmps39
      go_wp2_with fail
      go_ret
      exact ⟨rfl, Below.refl _ _⟩
    by_cases h73 : y = 73
    · have hr : R = 1 := by rw [← hR, b_of hy h73 (by decide)]; exact flat_letter t (by decide)
      subst hr
      have f66 : ((y : Int) == 66) = false := by rw [beq_eq_false_iff_ne]; omega
      have f67 : ((y : Int) == 67) = false := by rw [beq_eq_false_iff_ne]; omega
      have f68 : ((y : Int) == 68) = false := by rw [beq_eq_false_iff_ne]; omega
      have f70 : ((y : Int) == 70) = false := by rw [beq_eq_false_iff_ne]; omega
      have f73 : ((y : Int) == 73) = true := by rw [h73]; rfl
      clear h66 h67 h68 h70 h73 hR hy ht
      generalize tx (x :: t) = s at *
      go_enter Tryd.func39, Tryd.ntmps39
      go_wp2_with fail
      go_ret
      exact ⟨rfl, Below.refl _ _⟩
    by_cases h74 : y = 74
    · have hr : R = 1 := by rw [← hR, b_of hy h74 (by decide)]; exact flat_letter t (by decide)
      subst hr
      have f66 : ((y : Int) == 66) = false := by rw [beq_eq_false_iff_ne]; omega
      have f67 : ((y : Int) == 67) = false := by rw [beq_eq_false_iff_ne]; omega
      have f68 : ((y : Int) == 68) = false := by rw [beq_eq_false_iff_ne]; omega
      have f70 : ((y : Int) == 70) = false := by rw [beq_eq_false_iff_ne]; omega
      have f73 : ((y : Int) == 73) = false := by rw [beq_eq_false_iff_ne]; omega
      have f74 : ((y : Int) == 74) = true := by rw [h74]; rfl
      clear h66 h67 h68 h70 h73 h74 hR hy ht
      generalize tx (x :: t) = s at *
      go_enter Tryd.func39, Tryd.ntmps39
      go_wp2_with fail
      go_ret
      exact ⟨rfl, Below.refl _ _⟩
    by_cases h83 : y = 83
    · have hr : R = 1 := by rw [← hR, b_of hy h83 (by decide)]; exact flat_letter t (by decide)
      subst hr
      have f66 : ((y : Int) == 66) = false := by rw [beq_eq_false_iff_ne]; omega
      have f67 : ((y : Int) == 67) = false := by rw [beq_eq_false_iff_ne]; omega
      have f68 : ((y : Int) == 68) = false := by rw [beq_eq_false_iff_ne]; omega
      have f70 : ((y : Int) == 70) = false := by rw [beq_eq_false_iff_ne]; omega
      have f73 : ((y : Int) == 73) = false := by rw [beq_eq_false_iff_ne]; omega
      have f74 : ((y : Int) == 74) = false := by rw [beq_eq_false_iff_ne]; omega
      have f83 : ((y : Int) == 83) = true := by rw [h83]; rfl
      clear h66 h67 h68 h70 h73 h74 h83 hR hy ht
      generalize tx (x :: t) = s at *
      go_enter Tryd.func39, Tryd.ntmps39
      go_wp2_with fail
      go_ret
      exact ⟨rfl, Below.refl _ _⟩
    by_cases h90 : y = 90
    · have hr : R = 1 := by rw [← hR, b_of hy h90 (by decide)]; exact flat_letter t (by decide)
      subst hr
      have f66 : ((y : Int) == 66) = false := by rw [beq_eq_false_iff_ne]; omega
      have f67 : ((y : Int) == 67) = false := by rw [beq_eq_false_iff_ne]; omega
      have f68 : ((y : Int) == 68) = false := by rw [beq_eq_false_iff_ne]; omega
      have f70 : ((y : Int) == 70) = false := by rw [beq_eq_false_iff_ne]; omega
      have f73 : ((y : Int) == 73) = false := by rw [beq_eq_false_iff_ne]; omega
      have f74 : ((y : Int) == 74) = false := by rw [beq_eq_false_iff_ne]; omega
      have f83 : ((y : Int) == 83) = false := by rw [beq_eq_false_iff_ne]; omega
      have f90 : ((y : Int) == 90) = true := by rw [h90]; rfl
      clear h66 h67 h68 h70 h73 h74 h83 h90 hR hy ht
      generalize tx (x :: t) = s at *
      go_enter Tryd.func39, Tryd.ntmps39
      go_wp2_with fail
      go_ret
      exact ⟨rfl, Below.refl _ _⟩
    have f66 : ((y : Int) == 66) = false := by rw [beq_eq_false_iff_ne]; omega
    have f67 : ((y : Int) == 67) = false := by rw [beq_eq_false_iff_ne]; omega
    have f68 : ((y : Int) == 68) = false := by rw [beq_eq_false_iff_ne]; omega
    have f70 : ((y : Int) == 70) = false := by rw [beq_eq_false_iff_ne]; omega
    have f73 : ((y : Int) == 73) = false := by rw [beq_eq_false_iff_ne]; omega
    have f74 : ((y : Int) == 74) = false := by rw [beq_eq_false_iff_ne]; omega
    have f83 : ((y : Int) == 83) = false := by rw [beq_eq_false_iff_ne]; omega
    have f90 : ((y : Int) == 90) = false := by rw [beq_eq_false_iff_ne]; omega
    have hlt : letters.contains x = false := by
      rw [← Bool.not_eq_true, List.contains_iff_mem]
      intro hm
      simp only [letters, List.mem_cons, List.mem_nil_iff, or_false] at hm
      rcases hm with rfl | rfl | rfl | rfl | rfl | rfl | rfl | rfl <;> simp at hy <;> omega
    clear h66 h67 h68 h70 h73 h74 h83 h90
    by_cases h76 : y = 76
    · have hx : x = 76 := b_of hy h76 (by decide)
      subst hx
      have f76 : ((y : Int) == 76) = true := by rw [h76]; rfl
      rw [flat_L] at hR
      have CC := Lib.hid (fun W => cut_any t 59 (by omega) W)
      have hle := cut_le t 59
      have CK := Lib.hid (fun W => pclass_any (cutM t 59).1 (by omega) W)
      obtain ⟨q, hq⟩ : ∃ q, cutM t 59 = q := ⟨_, rfl⟩
      rw [hq] at CC CK hle hR
      obtain ⟨a, b, ok⟩ := q
      simp only at CC CK hle hR
      obtain ⟨m, hm⟩ : ∃ m, a.length = m := ⟨_, rfl⟩
      have hta : (tx a).size = m := by rw [tx_size, hm]
      obtain ⟨cl, hcl⟩ : ∃ b, classM a = b := ⟨_, rfl⟩
      rw [hcl] at CK hR
      rw [hm] at hR hle
      rw [show tx [59] = ⟨#[59]⟩ from rfl] at CC
      have HQ := Lib.hid (And.intro hq (And.intro hm (And.intro hcl (And.intro hy hlt))))
      clear hq hm hcl hy hlt h76
      generalize tx (76 :: t) = s at *
      generalize tx t = s2 at *
      generalize tx a = s3 at *
      generalize tx b = s4 at *
      cases ok with
      | false =>
        have hr : R = 0 := by rw [← hR]; rfl
        subst hr
        clear hR
        go_enter Tryd.func39, Tryd.ntmps39
        go_wp2_with (go_at_call 55; refine (CC.out _).mono ?_; rintro e w1 ⟨rfl, b1⟩)
        go_ret
        exact ⟨rfl, b1⟩
      | true =>
        cases cl with
        | false =>
          have hr : R = 0 := by rw [← hR]; rfl
          subst hr
          clear hR
          go_enter Tryd.func39, Tryd.ntmps39
          go_wp2_with (first | (go_at_call 55; refine (CC.out _).mono ?_; rintro e w1 ⟨rfl, b1⟩) | (go_at_call 11; refine (CK.out _).mono ?_; rintro e w2 ⟨rfl, b2⟩))
          go_ret
          exact ⟨rfl, b1.trans (b2.mono b1.size)⟩
        | true =>
          have hr : R = m + 2 := by rw [← hR]; rfl
          subst hr
          clear hR
          have q1 : wrap64 (1 + (m : Int)) = 1 + (m : Int) := IntWalk.wrap64_in _ (by omega)
          have q2 : wrap64 (1 + (m : Int) + 1) = ((m + 2 : Nat) : Int) := (IntWalk.wrap64_in (1 + (m : Int) + 1) (by omega)).trans (by omega)
          go_enter Tryd.func39, Tryd.ntmps39
          go_wp2_with (first | (go_at_call 55; refine (CC.out _).mono ?_; rintro e w1 ⟨rfl, b1⟩) | (go_at_call 11; refine (CK.out _).mono ?_; rintro e w2 ⟨rfl, b2⟩))
          go_ret
          exact ⟨ret_int (by omega), b1.trans (b2.mono b1.size)⟩
    · have hr : R = 0 := by rw [← hR]; exact flat_no t hlt (fun e => h76 (by rw [← hy, e]; rfl))
      subst hr
      have f76 : ((y : Int) == 76) = false := by rw [beq_eq_false_iff_ne]; omega
      clear h76 hR hy ht hlt
      generalize tx (x :: t) = s at *
      go_enter Tryd.func39, Tryd.ntmps39
      go_wp2_with fail
      go_ret
      exact ⟨rfl, Below.refl _ _⟩

theorem fs_pos {l : List UInt8} {d f : Nat} (hd : dimsM l = d) (hf : flatM (l.drop d) = f) : fsM l = if 255 < d ∨ f = 0 then 0 else d + f := by rw [fsM, hd, hf]

set_option maxHeartbeats 4000000 in
theorem fsize_any (l : List UInt8) (hs : l.length ≤ 100000) (w : World) : Calls Tryd.prog 31 #[.string (tx l)] w (Gives w (.int .i64 (fsM l : Nat))) := by
  obtain ⟨n, hn⟩ : ∃ n, l.length = n := ⟨_, rfl⟩
  have hts : (tx l).size = n := by rw [tx_size, hn]
  have C1 := Lib.hid (fun W => pdims_any l hs W)
  have hle := dims_le l
  obtain ⟨d, hd⟩ : ∃ d, dimsM l = d := ⟨_, rfl⟩
  rw [hd] at C1 hle
  have hcut := tx_cut l d n
  rw [List.take_of_length_le (by omega)] at hcut
  have C2 := Lib.hid (fun W => flat_any (l.drop d) (by rw [List.length_drop]; omega) W)
  have hfl := flat_le (l.drop d)
  rw [List.length_drop] at hfl
  obtain ⟨f, hf⟩ : ∃ f, flatM (l.drop d) = f := ⟨_, rfl⟩
  rw [hf] at C2 hfl
  rw [fs_pos hd hf]
  rw [hn] at hle hfl hs
  have i0 : (0 : Int) ≤ (d : Int) := by omega
  have i1 : (d : Int) ≤ (n : Int) := by omega
  clear hd hf hn
  generalize tx (l.drop d) = s2 at *
  generalize tx l = s at *
  by_cases h255 : 255 < d
  · have d1 : decide ((255 : Int) < (d : Int)) = true := by rw [decide_eq_true_iff]; omega
    rw [if_pos (.inl h255)]
    go_enter Tryd.func31, Tryd.ntmps31
    go_wp2_with (first | (go_at_call 19; refine (C1.out _).mono ?_; rintro e w1 ⟨rfl, rfl⟩) | (go_at_call 39; refine (C2.out _).mono ?_; rintro e w2 ⟨rfl, b2⟩))
    go_ret
    exact ⟨rfl, b2⟩
  · have d1 : decide ((255 : Int) < (d : Int)) = false := by rw [decide_eq_false_iff_not]; omega
    by_cases hf0 : f = 0
    · subst hf0
      rw [if_pos (.inr rfl)]
      go_enter Tryd.func31, Tryd.ntmps31
      go_wp2_with (first | (go_at_call 19; refine (C1.out _).mono ?_; rintro e w1 ⟨rfl, rfl⟩) | (go_at_call 39; refine (C2.out _).mono ?_; rintro e w2 ⟨rfl, b2⟩))
      go_ret
      exact ⟨rfl, b2⟩
    · have d2 : ((f : Int) == 0) = false := by rw [beq_eq_false_iff_ne]; omega
      have d3 : ¬ (f : Int) = 0 := by omega
      rw [if_neg (by rintro (h | h); exact h255 h; exact hf0 h)]
      have q1 : wrap64 ((d : Int) + (f : Int)) = ((d + f : Nat) : Int) := (IntWalk.wrap64_in ((d : Int) + (f : Int)) (by omega)).trans (by omega)
      go_enter Tryd.func31, Tryd.ntmps31
      go_wp2_with (first | (go_at_call 19; refine (C1.out _).mono ?_; rintro e w1 ⟨rfl, rfl⟩) | (go_at_call 39; refine (C2.out _).mono ?_; rintro e w2 ⟨rfl, b2⟩))
      go_ret
      exact ⟨ret_int (by first | exact q1 | rfl | omega), b2⟩

set_option maxHeartbeats 4000000 in
theorem pfield_any (l : List UInt8) (hs : l.length ≤ 100000) (w : World) : Calls Tryd.prog 15 #[.string (tx l)] w (Gives w (.bool (fieldM l))) := by
  obtain ⟨n, hn⟩ : ∃ n, l.length = n := ⟨_, rfl⟩
  have hts : (tx l).size = n := by rw [tx_size, hn]
  have C1 := Lib.hid (fun W => fsize_any l hs W)
  rw [field_eq]
  have hle := fs_le l
  obtain ⟨f, hf⟩ : ∃ f, fsM l = f := ⟨_, rfl⟩
  rw [hf] at C1 hle ⊢
  rw [hn] at hle ⊢
  clear hn hf
  generalize tx l = s at *
  by_cases h0 : 0 < f
  · have d1 : decide ((0 : Int) < (f : Int)) = true := by rw [decide_eq_true_iff]; omega
    rw [decide_eq_true h0]
    by_cases h1 : f = n
    · have d2 : ((f : Int) == (n : Int)) = true := by rw [h1]; simp
      rw [decide_eq_true h1]
      have H1 := Lib.hid h1
      clear h1
      go_enter Tryd.func15, Tryd.ntmps15
      go_wp2_with (go_at_call 31; refine (C1.out _).mono ?_; rintro e w1 ⟨rfl, b1⟩)
      go_ret
      exact ⟨by first | rfl | (rw [H1.out]; rfl) | simp [H1.out], b1⟩
    · have d2 : ((f : Int) == (n : Int)) = false := by rw [beq_eq_false_iff_ne]; omega
      rw [decide_eq_false h1]
      go_enter Tryd.func15, Tryd.ntmps15
      go_wp2_with (go_at_call 31; refine (C1.out _).mono ?_; rintro e w1 ⟨rfl, b1⟩)
      go_ret
      exact ⟨by first | rfl | (simp; omega), b1⟩
  · obtain rfl : f = 0 := by omega
    rw [decide_eq_false h0]
    go_enter Tryd.func15, Tryd.ntmps15
    go_wp2_with (go_at_call 31; refine (C1.out _).mono ?_; rintro e w1 ⟨rfl, b1⟩)
    go_ret
    exact ⟨rfl, b1⟩

theorem field_J : fieldM [74] = true := (field_iff _).2 ⟨0, [74], rfl, by decide, .inl ⟨74, by decide, rfl⟩⟩
theorem field_D : fieldM [68] = true := (field_iff _).2 ⟨0, [68], rfl, by decide, .inl ⟨68, by decide, rfl⟩⟩
set_option maxHeartbeats 4000000 in
theorem proom_any (l : List UInt8) (hs : l.length ≤ 100000) (w : World) : Calls Tryd.prog 17 #[.string (tx l)] w (Gives w (.int .i64 (roomM l))) := by
  have C1 := Lib.hid (fun W => pfield_any l hs W)
  have g1 := tl_lit l [74]
  have g2 := tl_lit l [68]
  obtain ⟨R, hR⟩ : ∃ r, roomM l = r := ⟨_, rfl⟩
  rw [hR]
  unfold roomM at hR
  by_cases h1 : l = [74]
  · rw [if_pos (.inl h1)] at hR
    rw [h1, field_J, ← h1] at C1
    rw [decide_eq_true h1] at g1
    subst hR
    clear h1
    generalize tx l = s at *
    go_enter Tryd.func17, Tryd.ntmps17
    go_wp2_with (go_at_call 15; refine (C1.out _).mono ?_; rintro e w1 ⟨rfl, b1⟩)
    go_ret
    exact ⟨rfl, b1⟩
  · rw [decide_eq_false h1] at g1
    by_cases h2 : l = [68]
    · rw [if_pos (.inr h2)] at hR
      rw [h2, field_D, ← h2] at C1
      rw [decide_eq_true h2] at g2
      subst hR
      clear h1 h2
      generalize tx l = s at *
      go_enter Tryd.func17, Tryd.ntmps17
      go_wp2_with (go_at_call 15; refine (C1.out _).mono ?_; rintro e w1 ⟨rfl, b1⟩)
      go_ret
      exact ⟨rfl, b1⟩
    · rw [decide_eq_false h2] at g2
      rw [if_neg (by rintro (h | h); exact h1 h; exact h2 h)] at hR
      obtain ⟨b, hb⟩ : ∃ b, fieldM l = b := ⟨_, rfl⟩
      rw [hb] at C1 hR
      clear h1 h2 hb
      generalize tx l = s at *
      cases b with
      | false =>
        subst hR
        go_enter Tryd.func17, Tryd.ntmps17
        go_wp2_with (go_at_call 15; refine (C1.out _).mono ?_; rintro e w1 ⟨rfl, b1⟩)
        go_ret
        exact ⟨rfl, b1⟩
      | true =>
        subst hR
        go_enter Tryd.func17, Tryd.ntmps17
        go_wp2_with (go_at_call 15; refine (C1.out _).mono ?_; rintro e w1 ⟨rfl, b1⟩)
        go_ret
        exact ⟨rfl, b1⟩

set_option maxHeartbeats 4000000 in
theorem pnamed_any (l : List UInt8) (hs : l.length ≤ 100000) (w : World) : Calls Tryd.prog 13 #[.string (tx l)] w (Gives w (.bool (namedM l))) := by
  have C1 := Lib.hid (fun W => pclass_any l hs W)
  have C2 := Lib.hid (fun W => pdims_any l hs W)
  have C3 := Lib.hid (fun W => pfield_any l hs W)
  unfold namedM
  rw [← dims_pos]
  obtain ⟨r1, h1⟩ : ∃ r, classM l = r := ⟨_, rfl⟩
  obtain ⟨d, h2⟩ : ∃ r, dimsM l = r := ⟨_, rfl⟩
  obtain ⟨r3, h3⟩ : ∃ r, fieldM l = r := ⟨_, rfl⟩
  rw [h1] at C1 ⊢
  rw [h2] at C2 ⊢
  rw [h3] at C3 ⊢
  clear h1 h2 h3
  generalize tx l = s at *
  cases r1 with
  | true =>
    go_enter Tryd.func13, Tryd.ntmps13
    go_wp2_with (go_at_call 11; refine (C1.out _).mono ?_; rintro e w1 ⟨rfl, b1⟩)
    go_ret
    exact ⟨rfl, b1⟩
  | false =>
    by_cases h0 : 0 < d
    · have d1 : decide ((0 : Int) < (d : Int)) = true := by rw [decide_eq_true_iff]; omega
      rw [decide_eq_true h0]
      go_enter Tryd.func13, Tryd.ntmps13
      go_wp2_with (first | (go_at_call 11; refine (C1.out _).mono ?_; rintro e w1 ⟨rfl, b1⟩) | (go_at_call 19; refine (C2.out _).mono ?_; rintro e w2 ⟨rfl, rfl⟩) | (go_at_call 15; refine (C3.out _).mono ?_; rintro e w3 ⟨rfl, b3⟩))
      go_ret
      exact ⟨by simp, b1.trans (b3.mono b1.size)⟩
    · obtain rfl : d = 0 := by omega
      rw [decide_eq_false h0]
      go_enter Tryd.func13, Tryd.ntmps13
      go_wp2_with (first | (go_at_call 11; refine (C1.out _).mono ?_; rintro e w1 ⟨rfl, b1⟩) | (go_at_call 19; refine (C2.out _).mono ?_; rintro e w2 ⟨rfl, rfl⟩))
      go_ret
      exact ⟨rfl, b1⟩
end Go.Proofs.YtibkdmliolebgaaDoor
