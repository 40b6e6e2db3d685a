/-
  The document's Split, right, bits. Conditions: a date and a clock are numbers of 16 bits.
-/
import Derived.Test.YtdoclbgmbneggaaDoorD
namespace Go.Proofs.YtdoclbgmbneggaaDoor
open Go.RowKit
set_option maxRecDepth 100000
theorem wrapN (n : Nat) (h : n < 1000000) : wrap64 (n : Int) = n := IntWalk.wrap64_in _ (by omega)
theorem yrN (d : Nat) (hd : d < 65536) : wrap64 (yr d : Int) = yr d := wrapN (yr d) (by unfold yr; omega)
theorem seN (c : Nat) (_ : c < 65536) : wrap64 (((c % 32 : Nat) : Int) * 2) = se c := by unfold wrap64 se; omega
theorem hoN (c : Nat) (hc : c < 65536) : wrap64 (ho c : Int) = ho c := wrapN (ho c) (by unfold ho; omega)
theorem divN (c k : Nat) (hc : c < 65536) : wrap64 ((c / k : Nat) : Int) = (c / k : Nat) := wrapN (c / k) (Nat.lt_of_le_of_lt (Nat.div_le_self c k) (Nat.lt_trans hc (by decide)))
set_option maxHeartbeats 4000000 in
theorem refSplit_any (d c : Nat) (hd : d < 65536) (hc : c < 65536) (w : World) : Calls Tryd.prog 10 #[.agg #[.int .u16 d, .int .u16 c]] w (Gives w (.agg #[.int .i64 (yr d), .int .i64 (mo d), .int .i64 (da d), .int .i64 (ho c), .int .i64 (mi c), .int .i64 (se c)])) := by
  have w1 : IntKind.i64.wrap (d : Int) = d := IntWalk.i64_in _ (by omega)
  have w2 : IntKind.i64.wrap (c : Int) = c := IntWalk.i64_in _ (by omega)
  obtain ⟨q1, hq1⟩ : ∃ q, d / 512 = q := ⟨_, rfl⟩
  obtain ⟨q2, hq2⟩ : ∃ q, d / 32 = q := ⟨_, rfl⟩
  obtain ⟨q3, hq3⟩ : ∃ q, c / 32 = q := ⟨_, rfl⟩
  obtain ⟨q4, hq4⟩ : ∃ q, c % 32 = q := ⟨_, rfl⟩
  have t1 : (d : Int).tdiv 512 = (q1 : Int) := by rw [Int.tdiv_eq_ediv_of_nonneg (by omega)]; omega
  have t2 : (d : Int).tdiv 32 = (q2 : Int) := by rw [Int.tdiv_eq_ediv_of_nonneg (by omega)]; omega
  have t3 : (q2 : Int).tmod 16 = (mo d : Int) := by rw [Int.tmod_eq_emod_of_nonneg (by omega)]; unfold mo; omega
  have t4 : (d : Int).tmod 32 = (da d : Int) := by rw [Int.tmod_eq_emod_of_nonneg (by omega)]; unfold da; omega
  have t5 : (c : Int).tdiv 2048 = (ho c : Int) := by rw [Int.tdiv_eq_ediv_of_nonneg (by omega)]; unfold ho; omega
  have t6 : (c : Int).tdiv 32 = (q3 : Int) := by rw [Int.tdiv_eq_ediv_of_nonneg (by omega)]; omega
  have t7 : (q3 : Int).tmod 64 = (mi c : Int) := by rw [Int.tmod_eq_emod_of_nonneg (by omega)]; unfold mi; omega
  have t8 : (c : Int).tmod 32 = (q4 : Int) := by rw [Int.tmod_eq_emod_of_nonneg (by omega)]; omega
  have e1 : 1980 + (q1 : Int) = (yr d : Int) := by unfold yr; omega
  have x1 : wrap64 (q1 : Int) = q1 := hq1 ▸ divN d 512 hd
  have x2 : wrap64 (q2 : Int) = q2 := hq2 ▸ divN d 32 hd
  have x3 : wrap64 (q3 : Int) = q3 := hq3 ▸ divN c 32 hc
  have x4 : wrap64 (ho c : Int) = ho c := hoN c hc
  have a5 : wrap64 ((q4 : Int) * 2) = (se c : Int) := hq4 ▸ seN c hc
  have e3 : wrap64 (yr d : Int) = (yr d : Int) := yrN d hd
  have B1 := Lib.hid ((Below.refl w.heap.size w).alloc (Nat.le_refl _) (.cells #[.int .u16 d, .int .u16 c] 24))
  generalize yr d = Y at *
  generalize mo d = M at *
  generalize da d = D at *
  generalize ho c = H at *
  generalize mi c = I at *
  generalize se c = S at *
  clear hq1 hq2 hq3 hq4 hd hc
  go_enter Tryd.func10, Tryd.ntmps10
  go_wp2_with fail
  go_region
  go_wp2_with fail
  have hW : Whole (((w.alloc (.cells #[.int .u16 d, .int .u16 c] 24)).alloc (.cells (six Y M D H I S) 32)).drew) (w.heap.size + 1) 32 (six Y M D H I S) := by
    have h := Whole.new (w.alloc (.cells #[.int .u16 d, .int .u16 c] 24)) 32 (six Y M D H I S)
    rw [show (w.alloc (.cells #[.int .u16 d, .int .u16 c] 24)).heap.size = w.heap.size + 1 by simp] at h
    exact h
  refine bodyPost_ret (v := .agg (six Y M D H I S)) (results_cell_row (p := 2) (ty := 32) rfl _ _ (w.heap.size + 1) 32 (six Y M D H I S) (0, 0) _ rfl hW Tryd.underlying32 rfl (six_size32 Y M D H I S)) rfl ?_
  exact ⟨rfl, (B1.out.alloc B1.out.size _).drew⟩

/-- May a moment be? -/
def rightM (d c : Nat) : Bool := mayM (yr d) (mo d) (da d) (ho c) (mi c) (se c)
theorem right_any (d c : Nat) (hd : d < 65536) (hc : c < 65536) (w : World) : Calls Tryd.prog 11 #[.agg #[.int .u16 d, .int .u16 c]] w (Gives w (.bool (rightM d c))) := by
  have S := Lib.hid (fun W => split_any d c hd hc W)
  unfold rightM
  have M := Lib.hid (fun W => mayBe_any (yr d) (mo d) (da d) (ho c) (mi c) (se c) W)
  have B0 := Lib.hid ((Below.refl w.heap.size w).alloc (Nat.le_refl _) (.cells #[.int .u16 d, .int .u16 c] 24))
  clear hd hc
  go_enter Tryd.func11, Tryd.ntmps11
  go_wp2_with fail
  generalize w.alloc _ = w0 at B0 ⊢
  refine (S.out w0).mono ?_; rintro e w1 ⟨rfl, b1⟩
  have B1 := Lib.hid (bel_after B0.out (Nat.le_refl _) b1); clear b1
  go_wp2_with fail
  refine (M.out w1).mono ?_; rintro e w2 ⟨rfl, b2⟩
  have B2 := Lib.hid (bel_after B1.out (Nat.le_refl _) b2); clear b2
  go_wp2_with fail
  go_ret
  exact ⟨rfl, B2.out⟩
theorem refRight_any (d c : Nat) (hd : d < 65536) (hc : c < 65536) (w : World) : Calls Tryd.prog 12 #[.agg #[.int .u16 d, .int .u16 c]] w (Gives w (.bool (rightM d c))) := by
  have S := Lib.hid (fun W => refSplit_any d c hd hc W)
  unfold rightM
  have M := Lib.hid (fun W => parts_any (yr d) (mo d) (da d) (ho c) (mi c) (se c) W)
  have B0 := Lib.hid ((Below.refl w.heap.size w).alloc (Nat.le_refl _) (.cells #[.int .u16 d, .int .u16 c] 24))
  clear hd hc
  go_enter Tryd.func12, Tryd.ntmps12
  go_wp2_with fail
  generalize w.alloc _ = w0 at B0 ⊢
  refine (S.out w0).mono ?_; rintro e w1 ⟨rfl, b1⟩
  have B1 := Lib.hid (bel_after B0.out (Nat.le_refl _) b1); clear b1
  go_wp2_with fail
  refine (M.out w1).mono ?_; rintro e w2 ⟨rfl, b2⟩
  have B2 := Lib.hid (bel_after B1.out (Nat.le_refl _) b2); clear b2
  go_wp2_with fail
  go_ret
  exact ⟨rfl, B2.out⟩
theorem bits_any (d c : Nat) (hd : d < 65536) (hc : c < 65536) (w : World) : Calls Tryd.prog 23 #[.agg #[.int .u16 d, .int .u16 c]] w (Gives w (.int .u32 (d * 65536 + c : Nat))) := by
  have h : bits BinOp.or IntKind.u32 ((d : Int) * 65536) (c : Int) = ((d * 65536 + c : Nat) : Int) := by
    rw [show ((d : Int) * 65536) = ((d * 65536 : Nat) : Int) by simp, u32_or_nat _ _ (by omega) (by omega)]
    congr 1
    exact or_join d c 16 (by omega)
  have hm : (c : Int) % 4294967296 = c := by omega
  have B0 := Lib.hid ((Below.refl w.heap.size w).alloc (Nat.le_refl _) (.cells #[.int .u16 d, .int .u16 c] 24))
  generalize d * 65536 + c = V at *
  clear hc
  go_enter Tryd.func23, Tryd.ntmps23
  go_wp2_with fail
  go_ret
  exact ⟨rfl, B0.out⟩
end Go.Proofs.YtdoclbgmbneggaaDoor
