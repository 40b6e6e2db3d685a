/-
  PoolOrder: which value stands ahead of which is what the document says; like ones are the same. No conditions.
-/
import Derived.Test.YtmojclbejmnikaaPU
import Derived.Test.YtmojclbejmnikaaPL
namespace Go.Proofs.Ytmojclbejmnikaa
open Go Go.RowKit
set_option maxRecDepth 100000

set_option maxHeartbeats 16000000 in
theorem order_law (x y : Val) (tg : Int) (w : World) : Calls Try.prog 5 #[.agg #[.int .i64 x.tag, .string x.text, .int .u64 x.bits, .string x.cls, .string x.name, .string x.desc], .agg #[.int .i64 y.tag, .string y.text, .int .u64 y.bits, .string y.cls, .string y.name, .string y.desc], .int .i64 tg] w (Gives w (.bool true)) := by
  obtain ⟨w1, hw1⟩ : ∃ W, (w.alloc (.cells #[.int .i64 x.tag, .string x.text, .int .u64 x.bits, .string x.cls, .string x.name, .string x.desc] 41)).alloc (.cells #[.int .i64 y.tag, .string y.text, .int .u64 y.bits, .string y.cls, .string y.name, .string y.desc] 41) = W := ⟨_, rfl⟩
  obtain ⟨g, hg⟩ : ∃ g, w.heap.size = g := ⟨_, rfl⟩
  have P1 : Hid (Whole w1 g 41 (valA x)) := Lib.hid (hw1 ▸ hg ▸ (Whole.new w 41 (valA x)).alloc _)
  have Q1 : Hid (Whole w1 (g + 1) 41 (valA y)) := Lib.hid (by
    have := Whole.new (w.alloc (.cells (valA x) 41)) 41 (valA y)
    rw [World.size_alloc, hg] at this; rw [← hw1]; exact this)
  have B1 : Hid (Below w.heap.size w w1) := Lib.hid (hw1 ▸ ((Below.refl _ _).alloc (Nat.le_refl _) _).alloc (by simp) _)
  have FX := Lib.hid (fixed_any w1)
  have CXY := Lib.hid (fun W => comp_any x y W)
  have CYX := Lib.hid (fun W => comp_any y x W)
  have LXY := Lib.hid (fun W => lessV_any x y W)
  have LYX := Lib.hid (fun W => lessV_any y x W)
  have WD := Lib.hid (fun W => wide_any tg W)
  have h1 := comp_less x y
  have h2 := comp_less y x
  have h3 := comp_zero x y
  have h4 := comp_zero y x
  generalize compM x y = n at CXY h1 h3
  generalize compM y x = m at CYX h2 h4
  generalize lessV x y = bxy at LXY h1
  generalize lessV y x = byx at LYX h2
  have EQ : ∀ W, (binOp .eql 41 (.agg #[.int .i64 x.tag, .string x.text, .int .u64 x.bits, .string x.cls, .string x.name, .string x.desc]) (.agg #[.int .i64 y.tag, .string y.text, .int .u64 y.bits, .string y.cls, .string y.name, .string y.desc])).run Try.prog W = .ok (.bool (decide (n = 0))) W := fun W => by
    have e : eqVB x y = decide (n = 0) := by rw [Bool.eq_iff_iff, eqVB_iff, decide_eq_true_iff]; exact h3.symm
    rw [← e]; exact eqlV x y W
  have hnm : decide (m = 0) = decide (n = 0) := by rw [Bool.eq_iff_iff, decide_eq_true_iff, decide_eq_true_iff, h3, h4]; exact eq_comm
  have z1 : (n == 0) = decide (n = 0) := by rw [Bool.eq_iff_iff]; simp
  have z2 : (m == 0) = decide (n = 0) := by rw [← hnm, Bool.eq_iff_iff]; simp
  generalize decide (n = 0) = bz at EQ z1 z2 hnm
  have HH := Lib.hid (And.intro h3 (And.intro h4 hnm))
  clear h3 h4 hnm
  have bb : ∀ b : Bool, (b == b) = true := fun b => by cases b <;> rfl
  go_enter Try.func5, Try.ntmps5
  go_wp2_with fail
  refine FX.out.mono ?_
  rintro e w2 ⟨rfl, hb2⟩
  have P2 := Lib.hid (P1.out.bel hb2)
  have Q2 := Lib.hid (Q1.out.bel hb2)
  have B2 := Lib.hid (B1.out.trans (hb2.mono B1.out.size))
  have c0 : w2.cell? ⟨g, 0, none⟩ = some (.int .i64 x.tag) := P2.out.cell 0; have c1 : w2.cell? ⟨g, 1, none⟩ = some (.string x.text) := P2.out.cell 1; have c2 : w2.cell? ⟨g, 2, none⟩ = some (.int .u64 x.bits) := P2.out.cell 2; have c3 : w2.cell? ⟨g, 3, none⟩ = some (.string x.cls) := P2.out.cell 3; have c4 : w2.cell? ⟨g, 4, none⟩ = some (.string x.name) := P2.out.cell 4; have c5 : w2.cell? ⟨g, 5, none⟩ = some (.string x.desc) := P2.out.cell 5; have c6 : w2.cell? ⟨(g + 1), 0, none⟩ = some (.int .i64 y.tag) := Q2.out.cell 0; have c7 : w2.cell? ⟨(g + 1), 1, none⟩ = some (.string y.text) := Q2.out.cell 1; have c8 : w2.cell? ⟨(g + 1), 2, none⟩ = some (.int .u64 y.bits) := Q2.out.cell 2; have c9 : w2.cell? ⟨(g + 1), 3, none⟩ = some (.string y.cls) := Q2.out.cell 3; have c10 : w2.cell? ⟨(g + 1), 4, none⟩ = some (.string y.name) := Q2.out.cell 4; have c11 : w2.cell? ⟨(g + 1), 5, none⟩ = some (.string y.desc) := Q2.out.cell 5
  clear hb2
  go_upto_region 3 with fail
  go_region_held3 (fun w' => w'.cell? ⟨g, 0, none⟩ = some (.int .i64 x.tag) ∧ w'.cell? ⟨g, 1, none⟩ = some (.string x.text) ∧ w'.cell? ⟨g, 2, none⟩ = some (.int .u64 x.bits) ∧ w'.cell? ⟨g, 3, none⟩ = some (.string x.cls) ∧ w'.cell? ⟨g, 4, none⟩ = some (.string x.name) ∧ w'.cell? ⟨g, 5, none⟩ = some (.string x.desc) ∧ w'.cell? ⟨(g + 1), 0, none⟩ = some (.int .i64 y.tag) ∧ w'.cell? ⟨(g + 1), 1, none⟩ = some (.string y.text) ∧ w'.cell? ⟨(g + 1), 2, none⟩ = some (.int .u64 y.bits) ∧ w'.cell? ⟨(g + 1), 3, none⟩ = some (.string y.cls) ∧ w'.cell? ⟨(g + 1), 4, none⟩ = some (.string y.name) ∧ w'.cell? ⟨(g + 1), 5, none⟩ = some (.string y.desc)) (first | exact ⟨c0, c1, c2, c3, c4, c5, c6, c7, c8, c9, c10, c11⟩ | exact ⟨d0, d1, d2, d3, d4, d5, d6, d7, d8, d9, d10, d11⟩ | exact ⟨k0, k1, k2, k3, k4, k5, k6, k7, k8, k9, k10, k11⟩ | go_keep)
    (first
      | (go_at_call 18; refine (CYX.out w3).mono ?_; rintro e w4 ⟨rfl, b4⟩; have P4 := Lib.hid (P3.out.bel b4); have Q4 := Lib.hid (Q3.out.bel b4); have B4 := Lib.hid (B3.out.trans (b4.mono B3.out.size)); have k0 : w4.cell? ⟨g, 0, none⟩ = some (.int .i64 x.tag) := P4.out.cell 0; have k1 : w4.cell? ⟨g, 1, none⟩ = some (.string x.text) := P4.out.cell 1; have k2 : w4.cell? ⟨g, 2, none⟩ = some (.int .u64 x.bits) := P4.out.cell 2; have k3 : w4.cell? ⟨g, 3, none⟩ = some (.string x.cls) := P4.out.cell 3; have k4 : w4.cell? ⟨g, 4, none⟩ = some (.string x.name) := P4.out.cell 4; have k5 : w4.cell? ⟨g, 5, none⟩ = some (.string x.desc) := P4.out.cell 5; have k6 : w4.cell? ⟨(g + 1), 0, none⟩ = some (.int .i64 y.tag) := Q4.out.cell 0; have k7 : w4.cell? ⟨(g + 1), 1, none⟩ = some (.string y.text) := Q4.out.cell 1; have k8 : w4.cell? ⟨(g + 1), 2, none⟩ = some (.int .u64 y.bits) := Q4.out.cell 2; have k9 : w4.cell? ⟨(g + 1), 3, none⟩ = some (.string y.cls) := Q4.out.cell 3; have k10 : w4.cell? ⟨(g + 1), 4, none⟩ = some (.string y.name) := Q4.out.cell 4; have k11 : w4.cell? ⟨(g + 1), 5, none⟩ = some (.string y.desc) := Q4.out.cell 5; clear b4)
      | (go_at_call 18; refine (CXY.out _).mono ?_; rintro e w3 ⟨rfl, b3⟩; have P3 := Lib.hid (P2.out.drew.bel b3); have Q3 := Lib.hid (Q2.out.drew.bel b3); have B3 := Lib.hid (B2.out.drew.trans (b3.mono B2.out.drew.size)); have d0 : w3.cell? ⟨g, 0, none⟩ = some (.int .i64 x.tag) := P3.out.cell 0; have d1 : w3.cell? ⟨g, 1, none⟩ = some (.string x.text) := P3.out.cell 1; have d2 : w3.cell? ⟨g, 2, none⟩ = some (.int .u64 x.bits) := P3.out.cell 2; have d3 : w3.cell? ⟨g, 3, none⟩ = some (.string x.cls) := P3.out.cell 3; have d4 : w3.cell? ⟨g, 4, none⟩ = some (.string x.name) := P3.out.cell 4; have d5 : w3.cell? ⟨g, 5, none⟩ = some (.string x.desc) := P3.out.cell 5; have d6 : w3.cell? ⟨(g + 1), 0, none⟩ = some (.int .i64 y.tag) := Q3.out.cell 0; have d7 : w3.cell? ⟨(g + 1), 1, none⟩ = some (.string y.text) := Q3.out.cell 1; have d8 : w3.cell? ⟨(g + 1), 2, none⟩ = some (.int .u64 y.bits) := Q3.out.cell 2; have d9 : w3.cell? ⟨(g + 1), 3, none⟩ = some (.string y.cls) := Q3.out.cell 3; have d10 : w3.cell? ⟨(g + 1), 4, none⟩ = some (.string y.name) := Q3.out.cell 4; have d11 : w3.cell? ⟨(g + 1), 5, none⟩ = some (.string y.desc) := Q3.out.cell 5; clear b3)
      | fail)
  clear c0 d0 c1 d1 c2 d2 c3 d3 c4 d4 c5 d5 c6 d6 c7 d7 c8 d8 c9 d9 c10 d10 c11 d11
  have h5 : (tg == 5) = decide (tg = 5) := by rw [Bool.eq_iff_iff]; simp
  have h6 : (tg == 6) = decide (tg = 6) := by rw [Bool.eq_iff_iff]; simp
  have WV := Lib.hid (show ∀ W, Calls Try.prog 20 #[.int .i64 tg] W (Rets W (.bool (wideB tg))) from fun W => WD.out W)
  have hw : wideB tg = (decide (tg = 5) || decide (tg = 6)) := rfl
  rw [hw] at WV
  generalize decide (tg = 5) = q5 at h5 WV
  generalize decide (tg = 6) = q6 at h6 WV
  clear hw
  cases q5
  · go_wp2_with fail
    refine (LXY.out w4).mono ?_
    rintro e w5 ⟨rfl, b5⟩
    have P5 := Lib.hid (P4.out.bel b5)
    have Q5 := Lib.hid (Q4.out.bel b5)
    have B5 := Lib.hid (B4.out.trans (b5.mono B4.out.size))
    have e0 : w5.cell? ⟨g, 0, none⟩ = some (.int .i64 x.tag) := P5.out.cell 0; have e1 : w5.cell? ⟨g, 1, none⟩ = some (.string x.text) := P5.out.cell 1; have e2 : w5.cell? ⟨g, 2, none⟩ = some (.int .u64 x.bits) := P5.out.cell 2; have e3 : w5.cell? ⟨g, 3, none⟩ = some (.string x.cls) := P5.out.cell 3; have e4 : w5.cell? ⟨g, 4, none⟩ = some (.string x.name) := P5.out.cell 4; have e5 : w5.cell? ⟨g, 5, none⟩ = some (.string x.desc) := P5.out.cell 5; have e6 : w5.cell? ⟨(g + 1), 0, none⟩ = some (.int .i64 y.tag) := Q5.out.cell 0; have e7 : w5.cell? ⟨(g + 1), 1, none⟩ = some (.string y.text) := Q5.out.cell 1; have e8 : w5.cell? ⟨(g + 1), 2, none⟩ = some (.int .u64 y.bits) := Q5.out.cell 2; have e9 : w5.cell? ⟨(g + 1), 3, none⟩ = some (.string y.cls) := Q5.out.cell 3; have e10 : w5.cell? ⟨(g + 1), 4, none⟩ = some (.string y.name) := Q5.out.cell 4; have e11 : w5.cell? ⟨(g + 1), 5, none⟩ = some (.string y.desc) := Q5.out.cell 5
    clear b5 k0 k1 k2 k3 k4 k5 k6 k7 k8 k9 k10 k11
    go_wp2_with fail
    refine (LYX.out w5).mono ?_
    rintro e w6 ⟨rfl, b6⟩
    have P6 := Lib.hid (P5.out.bel b6)
    have Q6 := Lib.hid (Q5.out.bel b6)
    have B6 := Lib.hid (B5.out.trans (b6.mono B5.out.size))
    have f0 : w6.cell? ⟨g, 0, none⟩ = some (.int .i64 x.tag) := P6.out.cell 0; have f1 : w6.cell? ⟨g, 1, none⟩ = some (.string x.text) := P6.out.cell 1; have f2 : w6.cell? ⟨g, 2, none⟩ = some (.int .u64 x.bits) := P6.out.cell 2; have f3 : w6.cell? ⟨g, 3, none⟩ = some (.string x.cls) := P6.out.cell 3; have f4 : w6.cell? ⟨g, 4, none⟩ = some (.string x.name) := P6.out.cell 4; have f5 : w6.cell? ⟨g, 5, none⟩ = some (.string x.desc) := P6.out.cell 5; have f6 : w6.cell? ⟨(g + 1), 0, none⟩ = some (.int .i64 y.tag) := Q6.out.cell 0; have f7 : w6.cell? ⟨(g + 1), 1, none⟩ = some (.string y.text) := Q6.out.cell 1; have f8 : w6.cell? ⟨(g + 1), 2, none⟩ = some (.int .u64 y.bits) := Q6.out.cell 2; have f9 : w6.cell? ⟨(g + 1), 3, none⟩ = some (.string y.cls) := Q6.out.cell 3; have f10 : w6.cell? ⟨(g + 1), 4, none⟩ = some (.string y.name) := Q6.out.cell 4; have f11 : w6.cell? ⟨(g + 1), 5, none⟩ = some (.string y.desc) := Q6.out.cell 5
    clear b6 e0 e1 e2 e3 e4 e5 e6 e7 e8 e9 e10 e11
    go_wp2_with (go_at_call 20; refine (WV.out _).mono ?_; rintro e w7 ⟨rfl, rfl⟩)
    go_ret
    exact ⟨rfl, B6.out⟩
  · go_wp2_with fail
    refine (LXY.out w4).mono ?_
    rintro e w5 ⟨rfl, b5⟩
    have P5 := Lib.hid (P4.out.bel b5)
    have Q5 := Lib.hid (Q4.out.bel b5)
    have B5 := Lib.hid (B4.out.trans (b5.mono B4.out.size))
    have e0 : w5.cell? ⟨g, 0, none⟩ = some (.int .i64 x.tag) := P5.out.cell 0; have e1 : w5.cell? ⟨g, 1, none⟩ = some (.string x.text) := P5.out.cell 1; have e2 : w5.cell? ⟨g, 2, none⟩ = some (.int .u64 x.bits) := P5.out.cell 2; have e3 : w5.cell? ⟨g, 3, none⟩ = some (.string x.cls) := P5.out.cell 3; have e4 : w5.cell? ⟨g, 4, none⟩ = some (.string x.name) := P5.out.cell 4; have e5 : w5.cell? ⟨g, 5, none⟩ = some (.string x.desc) := P5.out.cell 5; have e6 : w5.cell? ⟨(g + 1), 0, none⟩ = some (.int .i64 y.tag) := Q5.out.cell 0; have e7 : w5.cell? ⟨(g + 1), 1, none⟩ = some (.string y.text) := Q5.out.cell 1; have e8 : w5.cell? ⟨(g + 1), 2, none⟩ = some (.int .u64 y.bits) := Q5.out.cell 2; have e9 : w5.cell? ⟨(g + 1), 3, none⟩ = some (.string y.cls) := Q5.out.cell 3; have e10 : w5.cell? ⟨(g + 1), 4, none⟩ = some (.string y.name) := Q5.out.cell 4; have e11 : w5.cell? ⟨(g + 1), 5, none⟩ = some (.string y.desc) := Q5.out.cell 5
    clear b5 k0 k1 k2 k3 k4 k5 k6 k7 k8 k9 k10 k11
    go_wp2_with fail
    refine (LYX.out w5).mono ?_
    rintro e w6 ⟨rfl, b6⟩
    have P6 := Lib.hid (P5.out.bel b6)
    have Q6 := Lib.hid (Q5.out.bel b6)
    have B6 := Lib.hid (B5.out.trans (b6.mono B5.out.size))
    have f0 : w6.cell? ⟨g, 0, none⟩ = some (.int .i64 x.tag) := P6.out.cell 0; have f1 : w6.cell? ⟨g, 1, none⟩ = some (.string x.text) := P6.out.cell 1; have f2 : w6.cell? ⟨g, 2, none⟩ = some (.int .u64 x.bits) := P6.out.cell 2; have f3 : w6.cell? ⟨g, 3, none⟩ = some (.string x.cls) := P6.out.cell 3; have f4 : w6.cell? ⟨g, 4, none⟩ = some (.string x.name) := P6.out.cell 4; have f5 : w6.cell? ⟨g, 5, none⟩ = some (.string x.desc) := P6.out.cell 5; have f6 : w6.cell? ⟨(g + 1), 0, none⟩ = some (.int .i64 y.tag) := Q6.out.cell 0; have f7 : w6.cell? ⟨(g + 1), 1, none⟩ = some (.string y.text) := Q6.out.cell 1; have f8 : w6.cell? ⟨(g + 1), 2, none⟩ = some (.int .u64 y.bits) := Q6.out.cell 2; have f9 : w6.cell? ⟨(g + 1), 3, none⟩ = some (.string y.cls) := Q6.out.cell 3; have f10 : w6.cell? ⟨(g + 1), 4, none⟩ = some (.string y.name) := Q6.out.cell 4; have f11 : w6.cell? ⟨(g + 1), 5, none⟩ = some (.string y.desc) := Q6.out.cell 5
    clear b6 e0 e1 e2 e3 e4 e5 e6 e7 e8 e9 e10 e11
    go_wp2_with (go_at_call 20; refine (WV.out _).mono ?_; rintro e w7 ⟨rfl, rfl⟩)
    go_ret
    exact ⟨rfl, B6.out⟩
end Go.Proofs.Ytmojclbejmnikaa
