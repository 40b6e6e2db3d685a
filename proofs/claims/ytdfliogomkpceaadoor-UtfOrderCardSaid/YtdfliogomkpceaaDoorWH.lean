/-
  The program's isHigh, isLow and firstSign. Conditions: units in memory, at least one.
-/
import Derived.Test.YtdfliogomkpceaaDoorWA
import Derived.Test.YtdfliogomkpceaaDoorUE
namespace Go.Proofs.YtdfliogomkpceaaDoor
open Go Go.RowKit
set_option maxRecDepth 100000

theorem isHigh_any (x : Nat) (hx : x < 65536) (w : World) : Calls Tryd.prog 30 #[.int .u16 (x : Int)] w (Rets w (.bool (decide (x / 1024 = 54)))) := by
  obtain ⟨q, hq⟩ : ∃ q, x / 1024 = q := ⟨_, rfl⟩
  have nb := n16_1023 x q hx hq
  rw [hq]
  clear hq
  have e : ((q : Int) * 1024 == 55296) = decide (q = 54) := by
    by_cases h : q = 54
    · subst h; decide
    · rw [decide_eq_false h, beq_eq_false_iff_ne]; omega
  go_enter Tryd.func30, Tryd.ntmps30
  go_wp2
  go_ret
  exact ⟨by rw [← e]; rfl, rfl⟩
theorem isLow_any (x : Nat) (hx : x < 65536) (w : World) : Calls Tryd.prog 31 #[.int .u16 (x : Int)] w (Rets w (.bool (decide (x / 1024 = 55)))) := by
  obtain ⟨q, hq⟩ : ∃ q, x / 1024 = q := ⟨_, rfl⟩
  have nb := n16_1023 x q hx hq
  rw [hq]
  clear hq
  have e : ((q : Int) * 1024 == 56320) = decide (q = 55) := by
    by_cases h : q = 55
    · subst h; decide
    · rw [decide_eq_false h, beq_eq_false_iff_ne]; omega
  go_enter Tryd.func31, Tryd.ntmps31
  go_wp2
  go_ret
  exact ⟨by rw [← e]; rfl, rfl⟩
/-- The sign that units begin with, and how many of them are its. -/
def fsM : List Nat → Nat × Nat
  | [] => (0, 0)
  | [c] => if c / 1024 = 54 ∨ c / 1024 = 55 then (0, 0) else (c, 1)
  | c :: d :: _ => if c / 1024 = 54 then (if d / 1024 = 55 then (65536 + (c - 55296) * 1024 + (d - 56320), 2) else (0, 0)) else if c / 1024 = 55 then (0, 0) else (c, 1)

set_option maxHeartbeats 8000000 in
theorem firstSign_any (u : List Nat) (hu : ∀ x ∈ u, x < 65536) (A : Option Addr) (n c B : Nat) (hn : u.length = n) (h0 : 0 < n) (w : World) (hA : Seen w B 1 A n c (uv u)) :
    Calls Tryd.prog 22 #[.slice A n c] w (Rets w (.tuple #[.int .i32 ((fsM u).1 : Nat), .int .i64 ((fsM u).2 : Nat)])) := by
  have hkl : 0 < u.length := by omega
  obtain ⟨bk, o, v0, rfl, _, hv0, hc0⟩ := hA.at h0
  have hx6 : u[0] < 65536 := hu _ (List.getElem_mem hkl)
  obtain rfl : v0 = .int .u16 (u[0] : Nat) := (Option.some.inj ((uv_at u 0 hkl).symm.trans hv0)).symm
  obtain ⟨x, hx⟩ : ∃ x, u[0] = x := ⟨_, rfl⟩
  rw [hx] at hc0 hx6
  have hu1 : u = x :: u.drop 1 := by
    have := List.drop_eq_getElem_cons hkl
    rw [List.drop_zero, hx] at this; exact this
  have HU1 := Lib.hid hu1
  clear hu1
  have CH := Lib.hid (fun W => isHigh_any x hx6 W)
  have CL := Lib.hid (fun W => isLow_any x hx6 W)
  rw [Nat.add_zero] at hc0
  have h0z : (0 : Int) < (n : Int) := by omega
  have xi : IntKind.i32.wrap (x : Int) = x := by rw [IntKind.wrap_i32]; omega
  by_cases g1 : x / 1024 = 54
  · have hnl : ¬ x / 1024 = 55 := by omega
    rw [decide_eq_true g1] at CH
    by_cases h1 : n = 1
    · subst h1
      have hfs : fsM u = (0, 0) := by
        rw [HU1.out, List.drop_eq_nil_of_le (by omega), fsM, if_pos (.inl g1)]
      rw [hfs]
      clear hv0 hA hx hfs hu hkl
      go_enter Tryd.func22, Tryd.ntmps22
      go_wp2_with (first | (go_at_call 30; refine (CH.out _).mono ?_; rintro e w1 ⟨rfl, rfl⟩) | (go_at_call 31; refine (CL.out _).mono ?_; rintro e w1 ⟨rfl, rfl⟩))
      go_ret2
      exact ⟨rfl, rfl⟩
    have h1n : 1 < n := by omega
    have hk1 : 1 < u.length := by omega
    obtain ⟨bk', o', v1, hA1, _, hv1, hc1⟩ := hA.at h1n
    have hy6 : u[1] < 65536 := hu _ (List.getElem_mem hk1)
    obtain rfl : v1 = .int .u16 (u[1] : Nat) := (Option.some.inj ((uv_at u 1 hk1).symm.trans hv1)).symm
    obtain ⟨y, hy⟩ : ∃ y, u[1] = y := ⟨_, rfl⟩
    rw [hy] at hc1 hy6
    injection hA1 with hA1
    injection hA1 with e1 e2
    subst e1 e2
    have CL2 := Lib.hid (fun W => isLow_any y hy6 W)
    have h1z : (1 : Int) < (n : Int) := by omega
    have hfs : fsM u = if y / 1024 = 55 then (65536 + (x - 55296) * 1024 + (y - 56320), 2) else (0, 0) := by
      rw [HU1.out, List.drop_eq_getElem_cons hk1, hy, fsM, if_pos g1]
    by_cases g2 : y / 1024 = 55
    · rw [if_pos g2] at hfs
      rw [hfs]
      rw [decide_eq_true g2] at CL2
      obtain ⟨a, ha⟩ : ∃ a, x - 55296 = a := ⟨_, rfl⟩
      obtain ⟨b, hb⟩ : ∃ a, y - 56320 = a := ⟨_, rfl⟩
      have ha2 : (x : Int) - 55296 = (a : Int) := by omega
      have hb2 : (y : Int) - 56320 = (b : Int) := by omega
      have hab : a < 1024 ∧ b < 1024 := by omega
      have i1 : IntKind.u16.wrap (a : Int) = (a : Int) := IntWalk.u16_in _ (by omega)
      have i2 : IntKind.u16.wrap (b : Int) = (b : Int) := IntWalk.u16_in _ (by omega)
      have i3 : IntKind.i32.wrap (a : Int) = (a : Int) := by rw [IntKind.wrap_i32]; omega
      have i4 : IntKind.i32.wrap (b : Int) = (b : Int) := by rw [IntKind.wrap_i32]; omega
      obtain ⟨s1, hs1⟩ : ∃ s, a * 1024 = s := ⟨_, rfl⟩
      obtain ⟨s2, hs2⟩ : ∃ s, 65536 + s1 = s := ⟨_, rfl⟩
      obtain ⟨s3, hs3⟩ : ∃ s, s2 + b = s := ⟨_, rfl⟩
      have j1 : IntKind.i32.wrap ((a : Int) * 1024) = (s1 : Int) := by rw [IntKind.wrap_i32]; omega
      have j2 : IntKind.i32.wrap (65536 + (s1 : Int)) = (s2 : Int) := by rw [IntKind.wrap_i32]; omega
      have j3 : IntKind.i32.wrap ((s2 : Int) + (b : Int)) = (s3 : Int) := by rw [IntKind.wrap_i32]; omega
      have hres : 65536 + a * 1024 + b = s3 := by omega
      rw [ha, hb, hres]
      clear hv0 hv1 hA hx hy hfs hu hkl hk1 g1 g2 ha hb hs1 hs2 hs3 hres h1 hnl
      go_enter Tryd.func22, Tryd.ntmps22
      go_wp2_with (first | (go_at_call 30; refine (CH.out _).mono ?_; rintro e w1 ⟨rfl, rfl⟩) | (go_at_call 31; refine (CL2.out _).mono ?_; rintro e w1 ⟨rfl, rfl⟩))
      go_ret2
      exact ⟨rfl, rfl⟩
    · rw [if_neg g2] at hfs
      rw [hfs]
      rw [decide_eq_false g2] at CL2
      clear hv0 hv1 hA hx hy hfs hu hkl hk1 g1 g2 h1 hnl
      go_enter Tryd.func22, Tryd.ntmps22
      go_wp2_with (first | (go_at_call 30; refine (CH.out _).mono ?_; rintro e w1 ⟨rfl, rfl⟩) | (go_at_call 31; refine (CL2.out _).mono ?_; rintro e w1 ⟨rfl, rfl⟩))
      go_ret2
      exact ⟨rfl, rfl⟩
  · rw [decide_eq_false g1] at CH
    by_cases g2 : x / 1024 = 55
    · have hfs : fsM u = (0, 0) := by
        rw [HU1.out]
        cases u.drop 1 with
        | nil => rw [fsM, if_pos (.inr g2)]
        | cons q r => rw [fsM, if_neg g1, if_pos g2]
      rw [hfs]
      rw [decide_eq_true g2] at CL
      clear hv0 hA hx hfs hu hkl g1 g2
      go_enter Tryd.func22, Tryd.ntmps22
      go_wp2_with (first | (go_at_call 30; refine (CH.out _).mono ?_; rintro e w1 ⟨rfl, rfl⟩) | (go_at_call 31; refine (CL.out _).mono ?_; rintro e w1 ⟨rfl, rfl⟩))
      go_ret2
      exact ⟨rfl, rfl⟩
    · have hfs : fsM u = (x, 1) := by
        rw [HU1.out]
        cases u.drop 1 with
        | nil => rw [fsM, if_neg (by omega)]
        | cons q r => rw [fsM, if_neg g1, if_neg g2]
      rw [hfs]
      rw [decide_eq_false g2] at CL
      clear hv0 hA hx hfs hu hkl g1 g2
      go_enter Tryd.func22, Tryd.ntmps22
      go_wp2_with (first | (go_at_call 30; refine (CH.out _).mono ?_; rintro e w1 ⟨rfl, rfl⟩) | (go_at_call 31; refine (CL.out _).mono ?_; rintro e w1 ⟨rfl, rfl⟩))
      go_ret2
      exact ⟨rfl, rfl⟩
end Go.Proofs.YtdfliogomkpceaaDoor
