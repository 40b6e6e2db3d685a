/-
  MomentParses: the law's walk. Conditions: the table of powers of ten is as the library lays it; a text's length is a number of 63 bits.
-/
import Derived.Test.YtdoclbgmbneggaaDoorU
namespace Go.Proofs.YtdoclbgmbneggaaDoor
open Go.RowKit
set_option maxRecDepth 100000

/-- How many of the signs that part a text stand ahead of a place. -/
@[irreducible] def sep (k : Nat) : Nat := (if 4 < k then 1 else 0) + (if 7 < k then 1 else 0) + (if 10 < k then 1 else 0) + (if 13 < k then 1 else 0) + (if 16 < k then 1 else 0)
theorem sep_lt (k : Nat) : sep k < 6 := by unfold sep; split <;> split <;> split <;> split <;> split <;> omega
theorem sep_zero : sep 0 = 0 := by unfold sep; rfl
theorem sep_is {k : Nat} (h : k = 4 ∨ k = 7 ∨ k = 10 ∨ k = 13 ∨ k = 16) : sep (k + 1) = sep k + 1 := by unfold sep; rcases h with rfl | rfl | rfl | rfl | rfl <;> rfl
theorem sep_not {k : Nat} (h : ¬ (k = 4 ∨ k = 7 ∨ k = 10 ∨ k = 13 ∨ k = 16)) : sep (k + 1) = sep k := by
  unfold sep
  have h4 : (4 < k + 1) = (4 < k) := by simp; omega
  have h7 : (7 < k + 1) = (7 < k) := by simp; omega
  have h10 : (10 < k + 1) = (10 < k) := by simp; omega
  have h13 : (13 < k + 1) = (13 < k) := by simp; omega
  have h16 : (16 < k + 1) = (16 < k) := by simp; omega
  simp only [h4, h7, h10, h13, h16]
/-- Six numbers of whatever value. -/
def AnySix (w : World) (g : Nat) : Prop := ∃ y m d h i s : Int, Whole w g 32 (six y m d h i s)
theorem AnySix.at {w : World} {g : Nat} (hw : AnySix w g) {n : Nat} (hn : n < 6) : ∃ v : Int, w.cell? ⟨g, n, none⟩ = some (.int .i64 v) := by
  obtain ⟨y, m, d, h, i, s, hw⟩ := hw
  match n, hn with
  | 0, _ => exact ⟨y, hw.cell 0⟩
  | 1, _ => exact ⟨m, hw.cell 1⟩
  | 2, _ => exact ⟨d, hw.cell 2⟩
  | 3, _ => exact ⟨h, hw.cell 3⟩
  | 4, _ => exact ⟨i, hw.cell 4⟩
  | 5, _ => exact ⟨s, hw.cell 5⟩
theorem AnySix.frozen {w : World} {g : Nat} (hw : AnySix w g) (n : Nat) : w.frozen? ⟨g, n, none⟩ = false := by
  obtain ⟨y, m, d, h, i, s, hw⟩ := hw
  exact Whole.frozen hw n
theorem AnySix.put {w : World} {g : Nat} (hw : AnySix w g) {n : Nat} (hn : n < 6) (v : Int) : AnySix (w.setCell ⟨g, n, none⟩ (.int .i64 v)) g := by
  obtain ⟨y, m, d, h, i, s, hw⟩ := hw
  have hp := Whole.put hw n (.int .i64 v)
  match n, hn with
  | 0, _ => exact ⟨v, m, d, h, i, s, hp⟩
  | 1, _ => exact ⟨y, v, d, h, i, s, hp⟩
  | 2, _ => exact ⟨y, m, v, h, i, s, hp⟩
  | 3, _ => exact ⟨y, m, d, v, i, s, hp⟩
  | 4, _ => exact ⟨y, m, d, h, v, s, hp⟩
  | 5, _ => exact ⟨y, m, d, h, i, v, hp⟩

/-- Any numbers' moment: none, or one whose print is another text. -/
theorem jo_other (s : ByteArray) (hs : ∀ a b, a < 65536 → b < 65536 → rightM a b = true → pr a b ≠ s) (y m d h i x : Int) : ∃ a b e, jo y m d h i x = (a, b, e) ∧ (e ≠ 0 ∨ (e = 0 ∧ a < 65536 ∧ b < 65536 ∧ pr a b ≠ s)) := by
  obtain ⟨a, b, e, hj⟩ : ∃ a b e, jo y m d h i x = (a, b, e) := ⟨_, _, _, rfl⟩
  refine ⟨a, b, e, hj, ?_⟩
  by_cases he : e = 0
  · obtain ⟨h1, h2, h3⟩ := jo_ok hj he
    exact .inr ⟨he, h1, h2, hs a b h1 h2 h3⟩
  · exact .inl he

set_option maxHeartbeats 2000000 in
theorem parses_bad (s : ByteArray) (hl : s.size ≤ 100) (hp : paM s = (0, 0, 2)) (hs : ∀ a b, a < 65536 → b < 65536 → rightM a b = true → pr a b ≠ s) (w : World) (ht : Tab w) : Calls Tryd.prog 5 #[.string s] w (Gives w (.bool true)) := by
  have FX := Lib.hid (fixed_yes w ht)
  have PA := Lib.hid (fun W hW => parse_any s W hW)
  rw [hp] at PA
  simp only [joV, mom] at PA
  have HS := Lib.hid hs
  have HT := Lib.hid ht
  have h100 : decide ((s.size : Int) > 100) = false := by simp; omega
  have hn : s.size < 1000 := by omega
  clear hs ht hp hl
  go_enter Tryd.func5, Tryd.ntmps5
  go_wp2_with fail
  refine (FX.out).mono ?_; rintro e w1 ⟨rfl, b1⟩
  have B1 := Lib.hid b1; clear b1 FX
  go_wp2_with fail
  refine (PA.out _ (HT.out.bel B1.out)).mono ?_; rintro e w2 ⟨rfl, b1⟩
  have B2 := Lib.hid (bel_after B1.out (Nat.le_refl _) b1)
  clear b1 B1
  have P3 := Lib.hid (Whole.new w2 24 (mom 0 0))
  have B3 := Lib.hid (B2.out.alloc B2.out.size (.cells (mom 0 0) 24))
  simp only [mom00] at P3 B3
  go_upto_region 8 with fail
  generalize w2.alloc _ = w3 at P3 B3 ⊢
  obtain ⟨g3, hg3⟩ : ∃ g, w2.heap.size = g := ⟨_, rfl⟩
  rw [hg3] at P3 ⊢
  clear hg3 B2
  have P6 := Lib.hid (Whole.new w3 32 (six 0 0 0 0 0 0))
  have B4 := Lib.hid (B3.out.alloc B3.out.size (.cells (six 0 0 0 0 0 0) 32))
  have P4 := Lib.hid (P3.out.bel ((Below.refl w3.heap.size w3).alloc (Nat.le_refl _) (.cells (six 0 0 0 0 0 0) 32)))
  have hge : w.heap.size ≤ w3.heap.size := B3.out.size
  have hne : g3 ≠ w3.heap.size := by have := P3.out.lt; omega
  simp only [six] at P6 B4 P4
  go_upto_region 9 with fail
  generalize w3.alloc _ = w4 at P6 B4 P4 ⊢
  obtain ⟨g6, hg6⟩ : ∃ g, w3.heap.size = g := ⟨_, rfl⟩
  rw [hg6] at P6 hge hne ⊢
  clear hg6 P3 B3
  go_wp2_with fail
  go_loopw [5, 7] (fun a5 a7 wr => ∃ k : Nat, k ≤ 19 ∧ k ≤ s.size ∧ a5 = .int .i64 (sep k : Nat) ∧ a7 = .int .i64 k ∧ AnySix wr g6 ∧ Whole wr g3 24 (mom 0 0) ∧ Below w.heap.size w wr) (fun _ a _ => 19 - (intOf a).toNat)
  case atStart => exact ⟨0, by omega, by omega, by rw [sep_zero]; rfl, rfl, ⟨0, 0, 0, 0, 0, 0, P6.out⟩, P4.out, B4.out⟩
  case round =>
    obtain ⟨k, hk, hks, rfl, rfl, x6, x3, xb⟩ := hrel
    have X6 := Lib.hid x6; have X3 := Lib.hid x3; have XB := Lib.hid xb
    clear x6 x3 xb P6 P4 B4 w4
    by_cases hlt : k < 19 ∧ k < s.size
    · obtain ⟨l1, l2⟩ := hlt
      by_cases hse : k = 4 ∨ k = 7 ∨ k = 10 ∨ k = 13 ∨ k = 16
      · have hq := sep_is hse
        have hq6 := sep_lt k
        obtain ⟨q, hq0⟩ : ∃ q, sep k = q := ⟨_, rfl⟩
        rw [hq0] at hq hq6 ⊢
        have HQ := Lib.hid hq
        have w1 : wrap64 ((q : Int) + 1) = ((q + 1 : Nat) : Int) := by have := wrapN (q + 1) (by omega); simpa using this
        clear hq hq0 hk hks
        have l3 : decide ((k : Int) < s.size) = true := by simpa using l2
        rcases hse with rfl | rfl | rfl | rfl | rfl
        all_goals
          go_wp2
          go_roundw
          case rel => first | exact ⟨4 + 1, by omega, by omega, by rw [HQ.out]; simp, by go_num, X6.out, X3.out, XB.out⟩ | exact ⟨7 + 1, by omega, by omega, by rw [HQ.out]; simp, by go_num, X6.out, X3.out, XB.out⟩ | exact ⟨10 + 1, by omega, by omega, by rw [HQ.out]; simp, by go_num, X6.out, X3.out, XB.out⟩ | exact ⟨13 + 1, by omega, by omega, by rw [HQ.out]; simp, by go_num, X6.out, X3.out, XB.out⟩ | exact ⟨16 + 1, by omega, by omega, by rw [HQ.out]; simp, by go_num, X6.out, X3.out, XB.out⟩
          case measure => simp [intOf]
      · have hq := sep_not hse
        have hq6 := sep_lt k
        obtain ⟨v, hv⟩ := X6.out.at hq6
        have hfz := X6.out.frozen (sep k)
        obtain ⟨q, hq0⟩ : ∃ q, sep k = q := ⟨_, rfl⟩
        rw [hq0] at hq hq6 hv hfz ⊢
        have HQ := Lib.hid hq
        have z1 : ((k : Int) == 4) = false := by simp only [beq_eq_false_iff_ne]; omega
        have z2 : ((k : Int) == 7) = false := by simp only [beq_eq_false_iff_ne]; omega
        have z3 : ((k : Int) == 10) = false := by simp only [beq_eq_false_iff_ne]; omega
        have z4 : ((k : Int) == 13) = false := by simp only [beq_eq_false_iff_ne]; omega
        have z5 : ((k : Int) == 16) = false := by simp only [beq_eq_false_iff_ne]; omega
        have r0 : (0 : Int) ≤ q := by omega
        have r1 : (q : Int) < 6 := by omega
        have r2 : (0 : Int) ≤ k := by omega
        have r3 : (k : Int) < s.size := by omega
        have r4 : (k : Int) < 19 := by omega
        clear hq hq0 hk hks hse
        go_upto_region 14 with fail
        go_region
        go_wp2_with fail
        go_roundw
        case rel => exact ⟨k + 1, by omega, by omega, by rw [HQ.out], by go_num, X6.out.put hq6 _, Whole.drew (X3.out.far hne _), (XB.out.setCell (p := ⟨g6, q, none⟩) hge _).drew⟩
        case measure => simp [intOf]; omega
    · obtain ⟨y, m, d, h, i, x, hw6⟩ := X6.out
      obtain ⟨a, b, f, hj, hf⟩ := jo_other s HS.out y m d h i x
      have JC := Lib.hid (fun W => refJoin_any y m d h i x W)
      rw [hj] at JC
      simp only [joV, mom] at JC
      have HF := Lib.hid hf
      have W6 := Lib.hid hw6
      have c30 : wr.cell? ⟨g3, 0, none⟩ = some (.int .u16 0) := X3.out.cell 0
      have l0 : k < s.size ∨ ¬ k < s.size := by omega
      clear hj hf hw6 X6 HS
      rcases l0 with l0 | l0
      · have q2 : ¬ k < 19 := by omega
        clear hlt hk hks
        go_upto_region 15 with fail
        go_wp2_with (refine wpList_load_row rfl 32 (.tmp 6) rfl g6 rfl 32 (six y m d h i x) (0, 0) _ W6.out Tryd.underlying32 rfl (six_size32 y m d h i x) ?_)
        refine (JC.out _).mono ?_; rintro e w5 ⟨rfl, b1⟩
        have B5 := Lib.hid (bel_after XB.out (Nat.le_refl _) b1)
        have Q3 := Lib.hid (X3.out.bel b1)
        clear b1 JC X3 XB W6
        have P8 := Lib.hid (Whole.new w5 24 (mom a b))
        have B6 := Lib.hid (B5.out.alloc B5.out.size (.cells (mom a b) 24))
        have P3 := Lib.hid (Q3.out.bel ((Below.refl w5.heap.size w5).alloc (Nat.le_refl _) (.cells (mom a b) 24)))
        clear B5 Q3
        simp only [mom] at P8 B6 P3
        go_upto_region 16 with fail
        generalize w5.alloc _ = w6 at P8 B6 P3 ⊢
        obtain ⟨g8, hg8⟩ : ∃ g, w5.heap.size = g := ⟨_, rfl⟩
        rw [hg8] at P8 ⊢
        clear hg8
        have c0 : w6.cell? ⟨g3, 0, none⟩ = some (.int .u16 0) := P3.out.cell 0
        have c1 : w6.cell? ⟨g3, 1, none⟩ = some (.int .u16 0) := P3.out.cell 1
        have c2 : w6.cell? ⟨g8, 0, none⟩ = some (.int .u16 a) := P8.out.cell 0
        have c3 : w6.cell? ⟨g8, 1, none⟩ = some (.int .u16 b) := P8.out.cell 1
        rcases HF.out with hf | ⟨rfl, ha, hb, hpr⟩
        · have hx : (f != 0) = true := by simpa using hf
          clear hf HF
          go_wp2_with fail
          go_ret
          exact ⟨rfl, B6.out⟩
        · have RP := Lib.hid (fun W => refPrint_any a b ha hb W)
          have hx : ((pr a b).toList == s.toList) = false := by rw [ba_eq]; simpa using hpr
          generalize pr a b = tx at *
          clear ha hb hpr HF
          go_wp2_with fail
          refine (RP.out _).mono ?_; rintro e w7 ⟨rfl, b1⟩
          have B7 := Lib.hid (bel_after B6.out (Nat.le_refl _) b1)
          clear b1 c0 c1 c2 c3
          go_wp2_with fail
          go_ret
          exact ⟨rfl, B7.out⟩
      · clear hlt hk hks
        go_upto_region 15 with fail
        go_wp2_with (refine wpList_load_row rfl 32 (.tmp 6) rfl g6 rfl 32 (six y m d h i x) (0, 0) _ W6.out Tryd.underlying32 rfl (six_size32 y m d h i x) ?_)
        refine (JC.out _).mono ?_; rintro e w5 ⟨rfl, b1⟩
        have B5 := Lib.hid (bel_after XB.out (Nat.le_refl _) b1)
        have Q3 := Lib.hid (X3.out.bel b1)
        clear b1 JC X3 XB W6
        have P8 := Lib.hid (Whole.new w5 24 (mom a b))
        have B6 := Lib.hid (B5.out.alloc B5.out.size (.cells (mom a b) 24))
        have P3 := Lib.hid (Q3.out.bel ((Below.refl w5.heap.size w5).alloc (Nat.le_refl _) (.cells (mom a b) 24)))
        clear B5 Q3
        simp only [mom] at P8 B6 P3
        go_upto_region 16 with fail
        generalize w5.alloc _ = w6 at P8 B6 P3 ⊢
        obtain ⟨g8, hg8⟩ : ∃ g, w5.heap.size = g := ⟨_, rfl⟩
        rw [hg8] at P8 ⊢
        clear hg8
        have c0 : w6.cell? ⟨g3, 0, none⟩ = some (.int .u16 0) := P3.out.cell 0
        have c1 : w6.cell? ⟨g3, 1, none⟩ = some (.int .u16 0) := P3.out.cell 1
        have c2 : w6.cell? ⟨g8, 0, none⟩ = some (.int .u16 a) := P8.out.cell 0
        have c3 : w6.cell? ⟨g8, 1, none⟩ = some (.int .u16 b) := P8.out.cell 1
        rcases HF.out with hf | ⟨rfl, ha, hb, hpr⟩
        · have hx : (f != 0) = true := by simpa using hf
          clear hf HF
          go_wp2_with fail
          go_ret
          exact ⟨rfl, B6.out⟩
        · have RP := Lib.hid (fun W => refPrint_any a b ha hb W)
          have hx : ((pr a b).toList == s.toList) = false := by rw [ba_eq]; simpa using hpr
          generalize pr a b = tx at *
          clear ha hb hpr HF
          go_wp2_with fail
          refine (RP.out _).mono ?_; rintro e w7 ⟨rfl, b1⟩
          have B7 := Lib.hid (bel_after B6.out (Nat.le_refl _) b1)
          clear b1 c0 c1 c2 c3
          go_wp2_with fail
          go_ret
          exact ⟨rfl, B7.out⟩

theorem parses_good (s : ByteArray) (hl : s.size ≤ 100) (a b : Nat) (hp : paM s = (a, b, 0)) (ha : a < 65536) (hb : b < 65536) (hr : rightM a b = true) (hs : pr a b = s) (w : World) (ht : Tab w) : Calls Tryd.prog 5 #[.string s] w (Gives w (.bool true)) := by
  have FX := Lib.hid (fixed_yes w ht)
  have PA := Lib.hid (fun W hW => parse_any s W hW)
  rw [hp] at PA
  simp only [joV, mom] at PA
  have RR := Lib.hid (fun W => refRight_any a b ha hb W)
  rw [hr] at RR
  have RP := Lib.hid (fun W => refPrint_any a b ha hb W)
  rw [hs] at RP
  have HT := Lib.hid ht
  have h100 : decide ((s.size : Int) > 100) = false := by simp; omega
  have hn : s.size < 1000 := by omega
  have hx : (s.toList == s.toList) = true := by simp
  clear hs ht hp hl ha hb hr
  go_enter Tryd.func5, Tryd.ntmps5
  go_wp2_with fail
  refine (FX.out).mono ?_; rintro e w1 ⟨rfl, b1⟩
  have B1 := Lib.hid b1; clear b1 FX
  go_wp2_with fail
  refine (PA.out _ (HT.out.bel B1.out)).mono ?_; rintro e w2 ⟨rfl, b1⟩
  have B2 := Lib.hid (bel_after B1.out (Nat.le_refl _) b1)
  clear b1 B1
  have P3 := Lib.hid (Whole.new w2 24 (mom a b))
  have B3 := Lib.hid (B2.out.alloc B2.out.size (.cells (mom a b) 24))
  simp only [mom] at P3 B3
  go_upto_region 17 with fail
  generalize w2.alloc _ = w3 at P3 B3 ⊢
  obtain ⟨g3, hg3⟩ : ∃ g, w2.heap.size = g := ⟨_, rfl⟩
  rw [hg3] at P3 ⊢
  clear hg3 B2
  obtain ⟨c0, c1⟩ := mom_two P3.out
  go_wp2_with fail
  clear c0 c1
  refine (RR.out _).mono ?_; rintro e w4 ⟨rfl, b1⟩
  have B4 := Lib.hid (bel_after B3.out (Nat.le_refl _) b1)
  obtain ⟨c0, c1⟩ := mom_two (P3.out.bel b1)
  clear b1 P3 B3
  go_wp2_with fail
  clear c0 c1
  refine (RP.out _).mono ?_; rintro e w5 ⟨rfl, b1⟩
  have B5 := Lib.hid (bel_after B4.out (Nat.le_refl _) b1)
  clear b1 B4
  go_wp2_with fail
  go_ret
  exact ⟨rfl, B5.out⟩

theorem parses_long (s : ByteArray) (hl : 100 < s.size) (hm : s.size < 9223372036854775808) (w : World) (ht : Tab w) : Calls Tryd.prog 5 #[.string s] w (Gives w (.bool true)) := by
  have FX := Lib.hid (fixed_yes w ht)
  have h100 : decide ((s.size : Int) > 100) = true := by simp; omega
  go_enter Tryd.func5, Tryd.ntmps5
  go_wp2_with fail
  refine (FX.out).mono ?_; rintro e w1 ⟨rfl, b1⟩
  have B1 := Lib.hid b1; clear b1 FX
  go_wp2_with fail
  go_ret
  exact ⟨rfl, B1.out⟩

theorem parses_yes (s : ByteArray) (hm : s.size < 9223372036854775808) (w : World) (ht : Tab w) : Calls Tryd.prog 5 #[.string s] w (Gives w (.bool true)) := by
  by_cases hl : s.size ≤ 100
  · rcases paM_cases s with ⟨h1, h2⟩ | ⟨a, b, h1, h2, h3, h4, h5⟩
    · exact parses_bad s hl h1 h2 w ht
    · exact parses_good s hl a b h1 h2 h3 h4 h5 w ht
  · exact parses_long s (by omega) hm w ht
end Go.Proofs.YtdoclbgmbneggaaDoor
