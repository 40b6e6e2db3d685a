/-
  A moment of six numbers: Join, the document's Join. Conditions: none (any six numbers).
-/
import Derived.Test.YtdoclbgmbneggaaDoorE
namespace Go.Proofs.YtdoclbgmbneggaaDoor
open Go.RowKit
set_option maxRecDepth 100000

/-- A moment of six numbers, and the error. -/
def jo (y mo d h mi s : Int) : Nat × Nat × Int :=
  if mayM y mo d h mi s = false then (0, 0, 5) else if s % 2 ≠ 0 then (0, 0, 2)
  else ((y - 1980).toNat * 512 + mo.toNat * 32 + d.toNat, h.toNat * 2048 + mi.toNat * 32 + s.toNat / 2, 0)
def mom (a b : Nat) : Array Value := #[.int .u16 a, .int .u16 b]
def joV (p : Nat × Nat × Int) : Value := .tuple #[.agg (mom p.1 p.2.1), .int .i64 p.2.2]
theorem mom00 : mom 0 0 = #[.int .u16 0, .int .u16 0] := rfl
theorem mom_size (a b : Nat) : (Tryd.prog.info? 24).map (·.size) = some (mom a b).size := by kernel_rfl
theorem mom_one (a b : Nat) : (mom a b).all (·.oneCell') = true := by simp [mom, Value.oneCell']
theorem results_mom {fn : Func} {p u : Tmp} (h : fn.results = #[.cell p 24, .tmp u]) (tmps : Array Value) (w : World) (g a b : Nat) (hp : tmps.getD p undef = .pointer (some ⟨g, 0, none⟩)) (hg : Whole w g 24 (mom a b)) :
    (results fn tmps).run Tryd.prog w = .ok (.tuple #[.agg (mom a b), tmps.getD u undef]) w := by
  have hp' : tmps[p]?.getD undef = .pointer (some ⟨g, 0, none⟩) := by simpa using hp
  simp [results, h, hp', asAddr, run_loadVar_row w g 24 24 (mom a b) (0, 0) _ hg Tryd.underlying24 rfl (mom_size a b)]
theorem mayM_true {y mo d h mi s : Int} (hm : mayM y mo d h mi s = true) : (0 ≤ y - 1980 ∧ y - 1980 ≤ 127) ∧ (1 ≤ mo ∧ mo ≤ 12) ∧ (1 ≤ d ∧ d ≤ 31) ∧ (0 ≤ h ∧ h ≤ 23) ∧ (0 ≤ mi ∧ mi ≤ 59) ∧ (0 ≤ s ∧ s ≤ 59) := by
  simp only [mayM, wi, Bool.and_eq_true, decide_eq_true_eq] at hm
  obtain ⟨⟨⟨⟨h1, h2⟩, h3⟩, h4⟩, h5⟩ := hm
  unfold daysM at h2
  split at h2
  · split at h2
    · split at h2 <;> omega
    · split at h2 <;> omega
  · omega

theorem Whole.setRow {w : World} {g : Nat} {t : TypeId} {cs : Array Value} (h : Whole w g t cs) (cs' : Array Value) : Whole (w.setRow g cs') g t cs' := setRow_heap w g cs cs' t _ h
theorem Whole.setRow_far {w : World} {g g' : Nat} {t : TypeId} {cs : Array Value} (h : Whole w g t cs) (cs' : Array Value) (hne : g ≠ g') : Whole (w.setRow g' cs') g t cs := (setRow_other w g' g cs' hne).trans h
theorem below_setRow {B : Nat} {a w : World} (h : Below B a w) {g : Nat} (cs : Array Value) (hp : B ≤ g) : Below B a (w.setRow g cs) :=
  ⟨h.os, h.tape, h.output, by simpa using h.size, fun i hi => (setRow_other w g i cs (by omega)).trans (h.block i hi)⟩

theorem or_date (Y M D : Nat) (hY : Y < 128) (hM : M < 16) (hD : D < 32) : bits BinOp.or IntKind.i64 (bits BinOp.or IntKind.i64 ((Y : Int) * 512) ((M : Int) * 32)) D = ((Y * 512 + M * 32 + D : Nat) : Int) := by
  rw [show ((Y : Int) * 512) = ((Y * 512 : Nat) : Int) by simp, show ((M : Int) * 32) = ((M * 32 : Nat) : Int) by simp, i64_or_nat _ _ (by omega) (by omega), or_join Y (M * 32) 9 (by omega), i64_or_nat _ _ (by omega) (by omega)]
  congr 1
  rw [show Y * 2 ^ 9 + M * 32 = (Y * 16 + M) * 2 ^ 5 by omega, or_join _ D 5 (by omega)]
theorem or_clock (H I S : Nat) (hH : H < 24) (hI : I < 60) (hS : S < 30) : bits BinOp.or IntKind.i64 (bits BinOp.or IntKind.i64 ((H : Int) * 2048) ((I : Int) * 32)) S = ((H * 2048 + I * 32 + S : Nat) : Int) := by
  rw [show ((H : Int) * 2048) = ((H * 2048 : Nat) : Int) by simp, show ((I : Int) * 32) = ((I * 32 : Nat) : Int) by simp, i64_or_nat _ _ (by omega) (by omega), or_join H (I * 32) 11 (by omega), i64_or_nat _ _ (by omega) (by omega)]
  congr 1
  rw [show H * 2 ^ 11 + I * 32 = (H * 64 + I) * 2 ^ 5 by omega, or_join _ S 5 (by omega)]

set_option maxHeartbeats 1000000 in
theorem join_any (y mo d h mi s : Int) (w : World) : Calls Tryd.prog 14 #[.agg #[.int .i64 y, .int .i64 mo, .int .i64 d, .int .i64 h, .int .i64 mi, .int .i64 s]] w (Gives w (joV (jo y mo d h mi s))) := by
  obtain ⟨r, hr⟩ : ∃ r, joV (jo y mo d h mi s) = r := ⟨_, rfl⟩
  rw [hr]
  have hr := Lib.hid hr
  have MM := Lib.hid (fun W => mayBe_any y mo d h mi s W)
  have F30 := Lib.hid ((Whole.new w 30 (six y mo d h mi s)))
  have F24 := Lib.hid ((Whole.new (w.alloc (.cells (six y mo d h mi s) 30)) 24 (mom 0 0)))
  have B0 := Lib.hid (((Below.refl w.heap.size w).alloc (Nat.le_refl _) (.cells (six y mo d h mi s) 30)).alloc (by simp) (.cells (mom 0 0) 24))
  go_enter Tryd.func14, Tryd.ntmps14
  go_wp2_with fail
  have E30 : Hid (Whole ((w.alloc (.cells (six y mo d h mi s) 30)).alloc (.cells (mom 0 0) 24)) w.heap.size 30 (six y mo d h mi s)) := Lib.hid (F30.out.bel ((Below.refl _ _).alloc (Nat.le_refl _) _))
  have E24 : Hid (Whole ((w.alloc (.cells (six y mo d h mi s) 30)).alloc (.cells (mom 0 0) 24)) (w.heap.size + 1) 24 (mom 0 0)) := by
    have hz := F24
    rw [show (w.alloc (.cells (six y mo d h mi s) 30)).heap.size = w.heap.size + 1 by simp] at hz
    exact hz
  clear F30 F24
  obtain ⟨wa, hwa⟩ : ∃ W, (w.alloc (.cells (six y mo d h mi s) 30)).alloc (.cells (mom 0 0) 24) = W := ⟨_, rfl⟩
  rw [hwa] at E30 E24 B0
  simp only [six, mom00] at hwa
  rw [hwa]
  clear hwa
  refine (MM.out wa).mono ?_; rintro e w1 ⟨rfl, b1⟩
  have G30 := Lib.hid (E30.out.bel b1)
  have G24 := Lib.hid (E24.out.bel b1)
  have B1 := Lib.hid (bel_after B0.out (Nat.le_refl _) b1)
  clear b1 E30 E24 B0 MM
  by_cases hm : mayM y mo d h mi s = false
  · have hj : jo y mo d h mi s = (0, 0, 5) := by unfold jo; rw [if_pos hm]
    rw [hj] at hr
    rw [hm]
    go_wp2_with (refine wpList_store_row rfl 24 (.tmp 2) (.tmp 7) rfl (w.heap.size + 1) (mom 0 0) rfl rfl 24 (mom 0 0) G24.out (mom_size 0 0) rfl (mom_one 0 0) ?_)
    have Z24 : Hid (Whole (w1.setRow (w.heap.size + 1) (mom 0 0)) (w.heap.size + 1) 24 (mom 0 0)) := Lib.hid (G24.out.setRow (mom 0 0))
    have Z := Lib.hid (below_setRow B1.out (mom 0 0) (Nat.le_succ _))
    refine bodyPost_ret (results_mom (p := 2) (u := 3) rfl _ _ (w.heap.size + 1) 0 0 rfl Z24.out) rfl ?_
    exact ⟨by rw [← hr.out]; rfl, Z.out⟩
  have hmt : mayM y mo d h mi s = true := by simpa using hm
  obtain ⟨r1, r2, r3, r4, r5, r6⟩ := mayM_true hmt
  rw [hmt]
  by_cases hs : s % 2 ≠ 0
  · have hj : jo y mo d h mi s = (0, 0, 2) := by unfold jo; rw [if_neg hm, if_pos hs]
    rw [hj] at hr
    have ht : s.tmod 2 = 1 := by rw [Int.tmod_eq_emod_of_nonneg (by omega)]; omega
    clear hm hmt hs hj r1 r2 r3 r4 r5 r6
    obtain ⟨c0, c1, c2, c3, c4, c5⟩ := six_cells G30.out
    go_wp2_with (refine wpList_store_row rfl 24 (.tmp 2) (.tmp 12) rfl (w.heap.size + 1) (mom 0 0) rfl rfl 24 (mom 0 0) G24.out (mom_size 0 0) rfl (mom_one 0 0) ?_)
    have Z24 : Hid (Whole (w1.setRow (w.heap.size + 1) (mom 0 0)) (w.heap.size + 1) 24 (mom 0 0)) := Lib.hid (G24.out.setRow (mom 0 0))
    have Z := Lib.hid (below_setRow B1.out (mom 0 0) (Nat.le_succ _))
    refine bodyPost_ret (results_mom (p := 2) (u := 3) rfl _ _ (w.heap.size + 1) 0 0 rfl Z24.out) rfl ?_
    exact ⟨by rw [← hr.out]; rfl, Z.out⟩
  · have ht : s.tmod 2 = 0 := by rw [Int.tmod_eq_emod_of_nonneg (by omega)]; omega
    have hj : jo y mo d h mi s = ((y - 1980).toNat * 512 + mo.toNat * 32 + d.toNat, h.toNat * 2048 + mi.toNat * 32 + s.toNat / 2, 0) := by unfold jo; rw [if_neg hm, if_neg hs]
    rw [hj] at hr
    clear hj hm hmt
    obtain ⟨Y, rfl⟩ : ∃ Y : Nat, y = 1980 + Y := ⟨(y - 1980).toNat, by omega⟩
    obtain ⟨M, rfl⟩ : ∃ Y : Nat, mo = Y := ⟨mo.toNat, by omega⟩
    obtain ⟨D, rfl⟩ : ∃ Y : Nat, d = Y := ⟨d.toNat, by omega⟩
    obtain ⟨H, rfl⟩ : ∃ Y : Nat, h = Y := ⟨h.toNat, by omega⟩
    obtain ⟨I, rfl⟩ : ∃ Y : Nat, mi = Y := ⟨mi.toNat, by omega⟩
    obtain ⟨S, rfl⟩ : ∃ Y : Nat, s = 2 * (Y : Int) := ⟨s.toNat / 2, by omega⟩
    rw [show (1980 + (Y : Int) - 1980).toNat * 512 + (M : Int).toNat * 32 + (D : Int).toNat = Y * 512 + M * 32 + D by omega, show (H : Int).toNat * 2048 + (I : Int).toNat * 32 + (2 * (S : Int)).toNat / 2 = H * 2048 + I * 32 + S by omega] at hr
    have hY : Y < 128 := by omega
    have hM : M < 16 := by omega
    have hD : D < 32 := by omega
    have hH : H < 24 := by omega
    have hI : I < 60 := by omega
    have hS : S < 30 := by omega
    obtain ⟨c0, c1, c2, c3, c4, c5⟩ := six_cells G30.out
    have e1 : (1980 + (Y : Int)) - 1980 = Y := by omega
    have e2 : (2 * (S : Int)).tdiv 2 = S := by rw [Int.tdiv_eq_ediv_of_nonneg (by omega)]; omega
    have a1 := or_date Y M D hY hM hD
    have a2 := or_clock H I S hH hI hS
    obtain ⟨V, hV⟩ : ∃ V, Y * 512 + M * 32 + D = V := ⟨_, rfl⟩
    obtain ⟨U, hU⟩ : ∃ V, H * 2048 + I * 32 + S = V := ⟨_, rfl⟩
    have u1 : IntKind.u16.wrap (V : Int) = V := IntWalk.u16_in _ (by omega)
    have u2 : IntKind.u16.wrap (U : Int) = U := IntWalk.u16_in _ (by omega)
    rw [hV] at a1 hr
    rw [hU] at a2 hr
    clear r1 r2 r3 r4 r5 r6 hs hV hU
    go_wp2_with (refine wpList_store_row rfl 24 (.tmp 2) (.tmp 37) rfl (w.heap.size + 1) (mom V U) rfl rfl 24 (mom 0 0) G24.out (mom_size V U) rfl (mom_one V U) ?_)
    have Z24 : Hid (Whole (w1.setRow (w.heap.size + 1) (mom V U)) (w.heap.size + 1) 24 (mom V U)) := Lib.hid (G24.out.setRow (mom V U))
    have Z := Lib.hid (below_setRow B1.out (mom V U) (Nat.le_succ _))
    refine bodyPost_ret (results_mom (p := 2) (u := 3) rfl _ _ (w.heap.size + 1) V U rfl Z24.out) rfl ?_
    exact ⟨by rw [← hr.out]; rfl, Z.out⟩
end Go.Proofs.YtdoclbgmbneggaaDoor
