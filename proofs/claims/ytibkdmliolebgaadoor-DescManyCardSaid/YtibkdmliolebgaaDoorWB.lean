/-
  The program's first unit of a row. Conditions: a row of at most a million bytes, and not an empty one.
-/
import Derived.Test.YtibkdmliolebgaaDoorWA
import Derived.Test.YtibkdmliolebgaaDoorUC
namespace Go.Proofs.YtibkdmliolebgaaDoor
open Go Go.RowKit
set_option maxRecDepth 100000

/-- The further bytes of a unit. -/
def ct (s : List UInt8) : Nat → Nat → Nat → Option Nat
  | 0, _, u => some u
  | k + 1, i, u => if gN s i / 64 = 2 then ct s k (i + 1) (u * 64 % 65536 + gN s i % 64) else none
/-- The first unit of a row, and how many bytes it has. -/
def fuM (s : List UInt8) : Nat × Nat :=
  if (hiN (gN s 0)).2 = 0 ∨ s.length < (hiN (gN s 0)).2 then (0, 0) else
  match ct s ((hiN (gN s 0)).2 - 1) 1 (hiN (gN s 0)).1 with
  | none => (0, 0)
  | some v => if szN v = (hiN (gN s 0)).2 then (v, (hiN (gN s 0)).2) else (0, 0)
theorem hiN_le (c : Nat) (hc : c < 256) : (hiN c).2 ≤ 3 ∧ (hiN c).1 < 256 := by
  unfold hiN
  repeat' split
  all_goals simp only
  all_goals omega

set_option maxHeartbeats 8000000 in
theorem firstUnit_any (s : List UInt8) (n : Nat) (hn : s.length = n) (h0 : 0 < n) (hs : n ≤ 1000000) (w : World) :
    Calls Tryd.prog 35 #[.string (tx s)] w (Rets w (.tuple #[.int .u16 ((fuM s).1 : Nat), .int .i64 ((fuM s).2 : Nat)])) := by
  have hts : (tx s).size = n := by rw [tx_size, hn]
  have hat := tx_at s 0 (by rw [hts]; exact h0)
  have hc0 := gN_at s 0 (by omega)
  obtain ⟨c, hc⟩ : ∃ c, gN s 0 = c := ⟨_, rfl⟩
  have hat2 : ((tx s)[0]'(by rw [hts]; exact h0)).toNat = c := by rw [hat, ← hc0]; exact hc
  have hc256 : c < 256 := by rw [← hc, hc0]; exact UInt8.toNat_lt _
  obtain ⟨R, hR⟩ : ∃ R, fuM s = R := ⟨_, rfl⟩
  rw [hR]
  unfold fuM at hR
  rw [hc, hn] at hR
  have hh := hiN_le c hc256
  have CH := Lib.hid (fun W => highest_any c hc256 W)
  obtain ⟨hi, hhi⟩ : ∃ h, hiN c = h := ⟨_, rfl⟩
  rw [hhi] at hR CH hh
  obtain ⟨u, m⟩ := hi
  simp only at hR CH hh
  have HR := Lib.hid hR
  have h0z : (0 : Int) < (n : Int) := by omega
  clear hat hc0 hc hR hhi
  go_enter Tryd.func35, Tryd.ntmps35
  go_wp2_with fail
  refine (CH.out _).mono ?_
  rintro e w1 ⟨rfl, rfl⟩
  by_cases hm0 : m = 0
  · subst hm0
    have hr := HR.out
    rw [if_pos (.inl rfl)] at hr
    subst hr
    go_wp2_with fail
    go_ret2
    exact ⟨rfl, rfl⟩
  have e0 : decide ((m : Int) = 0) = false := by rw [decide_eq_false_iff_not]; omega
  have e0b : ((m : Int) == 0) = false := by rw [beq_eq_false_iff_ne]; omega
  by_cases hmn : n < m
  · have hr := HR.out
    rw [if_pos (.inr hmn)] at hr
    subst hr
    have e1 : decide ((n : Int) < (m : Int)) = true := by rw [decide_eq_true_iff]; omega
    go_wp2_with fail
    go_ret2
    exact ⟨rfl, rfl⟩
  have e1 : decide ((n : Int) < (m : Int)) = false := by rw [decide_eq_false_iff_not]; omega
  have hr := HR.out
  rw [if_neg (by omega)] at hr
  have HR2 := Lib.hid hr
  clear hr HR
  go_wp2_with fail
  go_loopg [4, 6] (m - 1) (fun j v4 v6 wr => ∃ i x : Nat, 1 ≤ i ∧ i ≤ m ∧ j = m - i ∧ v4 = .int .u16 x ∧ v6 = .int .i64 i ∧ x < 65536 ∧ ct s (m - 1) 1 u = ct s (m - i) i x ∧ wr = w)
  case atStart => exact ⟨1, u, Nat.le_refl _, by omega, rfl, rfl, rfl, by omega, rfl, rfl⟩
  case round =>
    obtain ⟨i, x, hi1, him, rfl, rfl, rfl, hx, hct, rfl⟩ := hrel
    by_cases hlt : i < m
    · have d0 : decide ((i : Int) < (m : Int)) = true := by rw [decide_eq_true_iff]; omega
      have hin : i < n := by omega
      have hat := tx_at s i (by rw [hts]; exact hin)
      have hgi := gN_at s i (by omega)
      obtain ⟨y, hy⟩ : ∃ y, gN s i = y := ⟨_, rfl⟩
      have hay : ((tx s)[i]'(by rw [hts]; exact hin)).toNat = y := by rw [hat, ← hgi]; exact hy
      have hy256 : y < 256 := by rw [← hy, hgi]; exact UInt8.toNat_lt _
      obtain ⟨q, hq⟩ : ∃ q, y / 64 = q := ⟨_, rfl⟩
      obtain ⟨b, hb⟩ : ∃ q, y % 64 = q := ⟨_, rfl⟩
      have nb := n8_63 y q hy256 hq
      have ab := a8_63 y b hy256 hb
      have hst : ct s (m - i) i x = if q = 2 then ct s (m - (i + 1)) (i + 1) (x * 64 % 65536 + b) else none := by
        rw [show m - i = m - (i + 1) + 1 by omega, ct, hy, hq, hb]
      have HST := Lib.hid (hct.trans hst)
      have hinz : (i : Int) < (n : Int) := by omega
      clear hat hgi hy hct hst
      by_cases h2 : q = 2
      · subst h2
        obtain ⟨z, hz⟩ : ∃ z, x * 64 % 65536 = z := ⟨_, rfl⟩
        have hzb : z < 65536 ∧ z % 64 = 0 ∧ z + b < 65536 ∧ b < 64 := by omega
        have w16 : IntKind.u16.wrap (x * 64 : Int) = (z : Int) := by rw [IntKind.wrap_u16]; omega
        have u1 : IntKind.u16.wrap (b : Int) = (b : Int) := IntWalk.u16_in _ (by omega)
        have oz := o16_six z b hzb.1 hzb.2.1 hzb.2.2.2
        have wi : IntKind.i64.wrap ((i : Int) + 1) = ((i + 1 : Nat) : Int) := by rw [IntWalk.i64_in _ (by omega)]; simp
        have HZ := Lib.hid hz
        clear hq hb hz
        go_wp2_with fail
        go_roundg (m - (i + 1))
        case measure => omega
        case rel =>
          refine ⟨i + 1, z + b, by omega, by omega, rfl, by simp, by simp, by omega, ?_, rfl⟩
          rw [HST.out, if_pos (by trivial), HZ.out]
      · have ne : decide (((q * 64 : Nat) : Int) = 128) = false := by rw [decide_eq_false_iff_not]; omega
        have hr := HST.out
        rw [if_neg h2] at hr
        have HR3 := HR2.out
        rw [hr] at HR3
        subst HR3
        go_wp2_with fail
        go_ret2
        exact ⟨rfl, rfl⟩
    · obtain rfl : i = m := by omega
      have d0 : decide ((i : Int) < (i : Int)) = false := by rw [decide_eq_false_iff_not]; omega
      have hr := HR2.out
      rw [hct, Nat.sub_self, ct] at hr
      simp only at hr
      have HR3 := Lib.hid hr
      clear hr hct
      go_wp2_with fail
      refine (size_any x _).mono ?_
      rintro e w1 ⟨rfl, rfl⟩
      by_cases hsz : szN x = i
      · have hr := HR3.out
        rw [if_pos hsz] at hr
        subst hr
        have e3 : decide ((szN x : Int) = (i : Int)) = true := by rw [decide_eq_true_iff]; omega
        go_wp2_with fail
        go_ret2
        exact ⟨rfl, rfl⟩
      · have hr := HR3.out
        rw [if_neg hsz] at hr
        subst hr
        have e3 : decide ((szN x : Int) = (i : Int)) = false := by rw [decide_eq_false_iff_not]; omega
        go_wp2_with fail
        go_ret2
        exact ⟨rfl, rfl⟩
end Go.Proofs.YtibkdmliolebgaaDoor
