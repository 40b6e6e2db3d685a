/-
  The document's dimensions, and names of classes. Conditions: texts of at most a hundred thousand bytes.
-/
import Derived.Test.YtibkdmliolebgaaDoorVA
namespace Go.Proofs.YtibkdmliolebgaaDoor
open Go Go.RowKit
set_option maxRecDepth 100000

def dimsM (l : List UInt8) : Nat := (l.takeWhile fun x => x == 91).length
theorem dims_le (l : List UInt8) : dimsM l ≤ l.length := by
  unfold dimsM
  exact (List.takeWhile_prefix _).length_le
theorem dims_eq : ∀ (l : List UInt8) (i : Nat), i ≤ l.length → (∀ d (h : d < l.length), d < i → l[d] = 91) → (∀ h : i < l.length, l[i] ≠ 91) → dimsM l = i
  | [], i, hi, _, _ => by simp at hi; subst hi; rfl
  | a :: l, 0, _, _, h => by
    have := h (by simp)
    unfold dimsM
    rw [List.takeWhile_cons, if_neg (by simpa using this)]; rfl
  | a :: l, i + 1, hi, h1, h2 => by
    have ha : a = 91 := h1 0 (by simp) (by omega)
    have ih := dims_eq l i (by simpa using hi) (fun d h hd => by have := h1 (d + 1) (by simpa using h) (by omega); simpa using this) (fun h => by have := h2 (by simpa using h); simpa using this)
    unfold dimsM at ih ⊢
    rw [List.takeWhile_cons, if_pos (by rw [ha]; rfl), List.length_cons, ih]
theorem n47 (a : UInt8) : ((a.toNat : Int) == 47) = (a == 47) := by
  rw [Bool.eq_iff_iff, beq_iff_eq, beq_iff_eq]
  constructor
  · intro h
    exact UInt8.toNat_inj.1 (show a.toNat = (47 : UInt8).toNat by have : (47 : UInt8).toNat = 47 := rfl; omega)
  · intro h; rw [h]; rfl
def begB (l : List UInt8) (d : Nat) : Bool := d == 0 || l.getD (d - 1) 0 == 47
def endB (l : List UInt8) (d : Nat) : Bool := d == l.length || l.getD d 0 == 47
def slM (l : List UInt8) : Bool := (List.range (l.length + 1)).all fun d => !(begB l d && endB l d)
def classM (l : List UInt8) : Bool := rightM l && woM l [46, 59, 91] && slM l

set_option maxHeartbeats 4000000 in
theorem dims_any (l : List UInt8) (hs : l.length ≤ 100000) (w : World) : Calls Tryd.prog 20 #[.string (tx l)] w (Rets w (.int .i64 (dimsM l))) := by
  obtain ⟨n, hn⟩ : ∃ n, l.length = n := ⟨_, rfl⟩
  have hts : (tx l).size = n := by rw [tx_size, hn]
  have HN := Lib.hid hn
  rw [hn] at hs
  clear hn
  go_enter Tryd.func20, Tryd.ntmps20
  go_wp2
  go_loopg [3] n (fun j v wr => ∃ i : Nat, i ≤ n ∧ j = n - i ∧ v = .int .i64 i ∧ wr = w ∧ ∀ d (h : d < l.length), d < i → l[d] = 91)
  case atStart => exact ⟨0, by omega, rfl, rfl, rfl, fun d h hd => by omega⟩
  case round =>
    obtain ⟨i, hi, rfl, rfl, rfl, hal⟩ := hrel
    have hn := HN.out
    by_cases hlt : i < n
    · have hil : i < l.length := by omega
      have d0 : decide ((i : Int) < (n : Int)) = true := by rw [decide_eq_true_iff]; omega
      obtain ⟨x, hx⟩ : ∃ x, l[i].toNat = x := ⟨_, rfl⟩
      have hxt : ((tx l)[i]'(by rw [hts]; exact hlt)).toNat = x := by rw [tx_at]; exact hx
      by_cases h91 : x = 91
      · have d1 : ((x : Int) == 91) = true := by rw [h91]; rfl
        have HNX : Hid (∀ d (h : d < l.length), d < i + 1 → l[d] = 91) := Lib.hid (fun d h hd => by
          by_cases hde : d < i
          · exact hal d h hde
          · obtain rfl : d = i := by omega
            exact UInt8.toNat_inj.1 (hx.trans h91))
        clear hal hx hn h91
        go_wp2_with fail
        go_roundg (n - (i + 1))
        case measure => omega
        case rel => exact ⟨i + 1, by omega, rfl, by go_num, rfl, HNX.out⟩
      · have d1 : ((x : Int) == 91) = false := by rw [beq_eq_false_iff_ne]; omega
        have hr := dims_eq l i (by omega) hal (fun h e => h91 (by rw [← hx, e]; rfl))
        have HR := Lib.hid hr
        clear hal hx hn h91 hr
        go_wp2_with fail
        go_ret
        exact ⟨by rw [HR.out]; rfl, rfl⟩
    · obtain rfl : i = n := by omega
      have d0 : decide ((i : Int) < (i : Int)) = false := by rw [decide_eq_false_iff_not]; omega
      have hr := dims_eq l i (by omega) hal (fun h => by omega)
      have HR := Lib.hid hr
      clear hal hn hr
      go_wp2_with fail
      go_ret
      exact ⟨by rw [HR.out]; rfl, rfl⟩

set_option maxHeartbeats 8000000 in
theorem class_any (l : List UInt8) (hs : l.length ≤ 100000) (w : World) : Calls Tryd.prog 12 #[.string (tx l)] w (Gives w (.bool (classM l))) := by
  have C1 := Lib.hid (fun W => right_any l hs W)
  have C2 := Lib.hid (fun W => without_any l [46, 59, 91] hs (by decide) W)
  obtain ⟨n, hn⟩ : ∃ n, l.length = n := ⟨_, rfl⟩
  have hts : (tx l).size = n := by rw [tx_size, hn]
  obtain ⟨R, hR⟩ : ∃ r, classM l = r := ⟨_, rfl⟩
  rw [hR]
  unfold classM at hR
  obtain ⟨r1, h1⟩ : ∃ r, rightM l = r := ⟨_, rfl⟩
  obtain ⟨r2, h2⟩ : ∃ r, woM l [46, 59, 91] = r := ⟨_, rfl⟩
  rw [h1] at C1 hR
  rw [h2] at C2 hR
  rw [hn] at hs
  have HN := Lib.hid hn
  clear h1 h2 hn
  unfold tx at C2
  cases r1 with
  | false =>
    subst hR
    go_enter Tryd.func12, Tryd.ntmps12
    go_wp2_with (go_at_call 27; refine (C1.out _).mono ?_; rintro e w1 ⟨rfl, b1⟩)
    go_ret
    exact ⟨rfl, b1⟩
  | true =>
  cases r2 with
  | false =>
    subst hR
    go_enter Tryd.func12, Tryd.ntmps12
    go_wp2_with (first | (go_at_call 27; refine (C1.out _).mono ?_; rintro e w1 ⟨rfl, b1⟩) | (go_at_call 28; refine (C2.out _).mono ?_; rintro e w2 ⟨rfl, b2⟩))
    go_ret
    exact ⟨rfl, b1.trans (b2.mono b1.size)⟩
  | true =>
    have hR2 : slM l = R := by simpa using hR
    have HR := Lib.hid hR2
    clear hR hR2
    go_enter Tryd.func12, Tryd.ntmps12
    go_wp2_with (first | (go_at_call 27; refine (C1.out _).mono ?_; rintro e w1 ⟨rfl, b1⟩) | (go_at_call 28; refine (C2.out _).mono ?_; rintro e w2 ⟨rfl, b2⟩))
    have B2 := Lib.hid (b1.trans (b2.mono b1.size))
    clear b1 b2
    go_loopg [3] (n + 1) (fun j v wr => ∃ i : Nat, i ≤ n + 1 ∧ j = n + 1 - i ∧ v = .int .i64 i ∧ wr = w2 ∧ ∀ d, d < i → (begB l d && endB l d) = false)
    case atStart => exact ⟨0, by omega, rfl, rfl, rfl, fun d hd => by omega⟩
    case round =>
      obtain ⟨i, hi, rfl, rfl, rfl, hal⟩ := hrel
      have hn := HN.out
      by_cases hlt : i ≤ n
      · have d0 : decide ((i : Int) ≤ (n : Int)) = true := by rw [decide_eq_true_iff]; omega
        obtain ⟨p, hp⟩ : ∃ p, begB l i = p := ⟨_, rfl⟩
        obtain ⟨q, hq⟩ : ∃ q, endB l i = q := ⟨_, rfl⟩
        have HNX : Hid ((p && q) = false → ∀ d, d < i + 1 → (begB l d && endB l d) = false) := Lib.hid (fun h d hd => by
          by_cases hde : d < i
          · exact hal d hde
          · obtain rfl : d = i := by omega
            rw [hp, hq]; exact h)
        have HBD : Hid ((p && q) = true → R = false) := Lib.hid (fun h => by
          rw [← HR.out, slM, List.all_eq_false]
          exact ⟨i, List.mem_range.2 (by omega), by rw [hp, hq, h]; simp⟩)
        by_cases h0 : i = 0
        · by_cases hin : i = n
          · skip
            have k1 : ((i : Int) == 0) = true := by rw [h0]; rfl
            obtain rfl : p = true := by rw [← hp, begB, h0]; rfl
            have k5 : ((i : Int) == (n : Int)) = true := by rw [hin]; simp
            obtain rfl : q = true := by rw [← hq, endB, hin, hn]; simp
            have H0 := Lib.hid (And.intro h0 hin)
            clear h0 hin hp hq hal hn
            have HRR := Lib.hid (HBD.out rfl)
            go_wp2_with fail
            go_ret
            exact ⟨by rw [HRR.out]; rfl, B2.out⟩
          · skip
            have k1 : ((i : Int) == 0) = true := by rw [h0]; rfl
            obtain rfl : p = true := by rw [← hp, begB, h0]; rfl
            have k5 : ((i : Int) == (n : Int)) = false := by rw [beq_eq_false_iff_ne]; omega
            have k6 : (i : Int) < (n : Int) := by omega
            have hil : i < l.length := by omega
            obtain ⟨y, hy⟩ : ∃ x, l[i].toNat = x := ⟨_, rfl⟩
            have hyb : i < (tx l).size := by rw [hts]; omega
            have hyt : ((tx l)[i]'hyb).toNat = y := by rw [tx_at]; exact hy
            have k7 : ((y : Int) == 47) = q := by
              have hne : (i == l.length) = false := by rw [beq_eq_false_iff_ne]; omega
              rw [← hq, endB, List.getD_eq_getElem?_getD, List.getElem?_eq_getElem hil, Option.getD_some, hne, Bool.false_or, ← n47, hy]
            have H0 := Lib.hid (And.intro h0 hin)
            clear h0 hin hp hq hal hn hy
            cases q with
            | true =>
              have HRR := Lib.hid (HBD.out rfl)
              go_wp2_with fail
              go_ret
              exact ⟨by rw [HRR.out]; rfl, B2.out⟩
            | false =>
              have HX := Lib.hid (HNX.out rfl)
              go_wp2_with fail
              go_roundg (n + 1 - (i + 1))
              case measure => omega
              case rel => exact ⟨i + 1, by have := H0.out; omega, rfl, by go_num, rfl, HX.out⟩
        · by_cases hin : i = n
          · skip
            obtain ⟨M, hM⟩ : ∃ M, i = M + 1 := ⟨i - 1, by omega⟩
            have k1 : ((i : Int) == 0) = false := by rw [beq_eq_false_iff_ne]; omega
            have k2 : (i : Int) - 1 = (M : Int) := by omega
            have k3 : (M : Int) < (n : Int) := by omega
            have hml : M < l.length := by omega
            obtain ⟨x, hx⟩ : ∃ x, l[M].toNat = x := ⟨_, rfl⟩
            have hxb : M < (tx l).size := by rw [hts]; omega
            have hxt : ((tx l)[M]'hxb).toNat = x := by rw [tx_at]; exact hx
            have k4 : ((x : Int) == 47) = p := by
              have hne : (M + 1 == 0) = false := by simp
              rw [← hp, begB, hM, Nat.add_sub_cancel, List.getD_eq_getElem?_getD, List.getElem?_eq_getElem hml, Option.getD_some, hne, Bool.false_or, ← n47, hx]
            have k5 : ((i : Int) == (n : Int)) = true := by rw [hin]; simp
            obtain rfl : q = true := by rw [← hq, endB, hin, hn]; simp
            have HM := Lib.hid hM
            have H0 := Lib.hid (And.intro h0 hin)
            clear h0 hin hp hq hal hn hx hM
            cases p with
            | true =>
              have HRR := Lib.hid (HBD.out rfl)
              go_wp2_with fail
              go_ret
              exact ⟨by rw [HRR.out]; rfl, B2.out⟩
            | false =>
              have HX := Lib.hid (HNX.out rfl)
              go_wp2_with fail
              go_roundg (n + 1 - (i + 1))
              case measure => omega
              case rel => exact ⟨i + 1, by have := H0.out; omega, rfl, by go_num, rfl, HX.out⟩
          · skip
            obtain ⟨M, hM⟩ : ∃ M, i = M + 1 := ⟨i - 1, by omega⟩
            have k1 : ((i : Int) == 0) = false := by rw [beq_eq_false_iff_ne]; omega
            have k2 : (i : Int) - 1 = (M : Int) := by omega
            have k3 : (M : Int) < (n : Int) := by omega
            have hml : M < l.length := by omega
            obtain ⟨x, hx⟩ : ∃ x, l[M].toNat = x := ⟨_, rfl⟩
            have hxb : M < (tx l).size := by rw [hts]; omega
            have hxt : ((tx l)[M]'hxb).toNat = x := by rw [tx_at]; exact hx
            have k4 : ((x : Int) == 47) = p := by
              have hne : (M + 1 == 0) = false := by simp
              rw [← hp, begB, hM, Nat.add_sub_cancel, List.getD_eq_getElem?_getD, List.getElem?_eq_getElem hml, Option.getD_some, hne, Bool.false_or, ← n47, hx]
            have k5 : ((i : Int) == (n : Int)) = false := by rw [beq_eq_false_iff_ne]; omega
            have k6 : (i : Int) < (n : Int) := by omega
            have hil : i < l.length := by omega
            obtain ⟨y, hy⟩ : ∃ x, l[i].toNat = x := ⟨_, rfl⟩
            have hyb : i < (tx l).size := by rw [hts]; omega
            have hyt : ((tx l)[i]'hyb).toNat = y := by rw [tx_at]; exact hy
            have k7 : ((y : Int) == 47) = q := by
              have hne : (i == l.length) = false := by rw [beq_eq_false_iff_ne]; omega
              rw [← hq, endB, List.getD_eq_getElem?_getD, List.getElem?_eq_getElem hil, Option.getD_some, hne, Bool.false_or, ← n47, hy]
            have HM := Lib.hid hM
            have H0 := Lib.hid (And.intro h0 hin)
            clear h0 hin hp hq hal hn hx hM hy
            cases p with
            | true =>
              cases q with
              | true =>
                have HRR := Lib.hid (HBD.out rfl)
                go_wp2_with fail
                go_ret
                exact ⟨by rw [HRR.out]; rfl, B2.out⟩
              | false =>
                have HX := Lib.hid (HNX.out rfl)
                go_wp2_with fail
                go_roundg (n + 1 - (i + 1))
                case measure => omega
                case rel => exact ⟨i + 1, by have := H0.out; omega, rfl, by go_num, rfl, HX.out⟩
            | false =>
              cases q with
              | true =>
                have HX := Lib.hid (HNX.out rfl)
                go_wp2_with fail
                go_roundg (n + 1 - (i + 1))
                case measure => omega
                case rel => exact ⟨i + 1, by have := H0.out; omega, rfl, by go_num, rfl, HX.out⟩
              | false =>
                have HX := Lib.hid (HNX.out rfl)
                go_wp2_with fail
                go_roundg (n + 1 - (i + 1))
                case measure => omega
                case rel => exact ⟨i + 1, by have := H0.out; omega, rfl, by go_num, rfl, HX.out⟩
      · obtain rfl : i = n + 1 := by omega
        have d0 : decide (((n + 1 : Nat) : Int) ≤ (n : Int)) = false := by rw [decide_eq_false_iff_not]; omega
        have d0b : decide ((n : Int) + 1 ≤ (n : Int)) = false := by rw [decide_eq_false_iff_not]; omega
        have hr : R = true := by
          rw [← HR.out, slM, List.all_eq_true]
          intro d hd
          rw [hal d (by have := List.mem_range.1 hd; omega)]; rfl
        have HRR := Lib.hid hr
        clear hal hr hn
        go_wp2_with fail
        go_ret
        exact ⟨by rw [HRR.out]; rfl, B2.out⟩
end Go.Proofs.YtibkdmliolebgaaDoor
