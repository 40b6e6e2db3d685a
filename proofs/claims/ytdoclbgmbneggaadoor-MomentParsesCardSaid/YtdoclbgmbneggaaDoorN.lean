/-
  The program's Print. Conditions: a date and a clock are numbers of 16 bits; the table of powers of ten is as the library lays it.
-/
import Derived.Test.YtdoclbgmbneggaaDoorM
namespace Go.Proofs.YtdoclbgmbneggaaDoor
open Go.RowKit
set_option maxRecDepth 100000

theorem pr_join (Y M D H I S : ByteArray) : Y ++ ⟨#[45]⟩ ++ M ++ ⟨#[45]⟩ ++ D ++ ⟨#[32]⟩ ++ (H ++ ⟨#[58]⟩ ++ I ++ ⟨#[58]⟩ ++ S) = Y ++ ⟨#[45]⟩ ++ M ++ ⟨#[45]⟩ ++ D ++ ⟨#[32]⟩ ++ H ++ ⟨#[58]⟩ ++ I ++ ⟨#[58]⟩ ++ S := by
  simp only [ByteArray.append_assoc]

theorem print_bad (d c : Nat) (hd : d < 65536) (hc : c < 65536) (h : rightM d c = false) (w : World) : Calls Tryd.prog 7 #[.agg #[.int .u16 d, .int .u16 c]] w (Gives w (.tuple #[.string ⟨#[]⟩, .int .i64 5])) := by
  have RR := Lib.hid (fun W => right_any d c hd hc W)
  rw [h] at RR
  have B0 := Lib.hid ((Below.refl w.heap.size w).alloc (Nat.le_refl _) (.cells #[.int .u16 d, .int .u16 c] 24))
  clear hd hc h
  go_enter Tryd.func7, Tryd.ntmps7
  go_wp2_with fail
  generalize w.alloc _ = w0 at B0 ⊢
  refine (RR.out w0).mono ?_; rintro e w1 ⟨rfl, b1⟩
  have B1 := Lib.hid (bel_after B0.out (Nat.le_refl _) b1); clear b1
  go_wp2_with fail
  go_ret2
  exact ⟨rfl, B1.out⟩

set_option maxHeartbeats 1000000 in
theorem print_any (d c : Nat) (hd : d < 65536) (hc : c < 65536) (h : rightM d c = true) (w : World) (ht : Tab w) : Calls Tryd.prog 7 #[.agg #[.int .u16 d, .int .u16 c]] w (Gives w (.tuple #[.string (pr d c), .int .i64 0])) := by
  have RR := Lib.hid (fun W => right_any d c hd hc W)
  rw [h] at RR
  have SP := Lib.hid (fun W => split_any d c hd hc W)
  have yb := year_lt hd
  have T1 := Lib.hid (fun W hW => digits4_any (yr d) (by omega) (by omega) W hW)
  have T2 := Lib.hid (fun W => digits2_any (mo d) (by unfold mo; omega) W)
  have T3 := Lib.hid (fun W => digits2_any (da d) (by unfold da; omega) W)
  have T4 := Lib.hid (fun W => digits2_any (ho c) (by unfold ho; omega) W)
  have T5 := Lib.hid (fun W => digits2_any (mi c) (by unfold mi; omega) W)
  have T6 := Lib.hid (fun W => digits2_any (se c) (by unfold se; omega) W)
  have HT := Lib.hid ht
  obtain ⟨r, hr⟩ : ∃ r, pr d c = r := ⟨_, rfl⟩
  rw [hr]
  unfold pr at hr
  rw [← pr_join] at hr
  have z0 : (tw (yr d / 100) ++ tw (yr d % 100)).size = 4 := rfl
  generalize tw (yr d / 100) ++ tw (yr d % 100) = s1 at *
  have z3 : (tw (mo d)).size = 2 := rfl
  have z4 : (tw (da d)).size = 2 := rfl
  have z5 : (tw (ho c)).size = 2 := rfl
  have z6 : (tw (mi c)).size = 2 := rfl
  have z7 : (tw (se c)).size = 2 := rfl
  generalize tw (mo d) = s3 at *
  generalize tw (da d) = s4 at *
  generalize tw (ho c) = s5 at *
  generalize tw (mi c) = s6 at *
  generalize tw (se c) = s7 at *
  have hr := Lib.hid hr
  generalize yr d = Y at *
  generalize mo d = M at *
  generalize da d = D at *
  generalize ho c = H at *
  generalize mi c = I at *
  generalize se c = S at *
  clear hd hc h yb ht
  have B0 := Lib.hid ((Below.refl w.heap.size w).alloc (Nat.le_refl _) (.cells #[.int .u16 d, .int .u16 c] 24))
  have P0 := Lib.hid (Whole.new w 24 (mom d c))
  simp only [mom] at P0
  go_enter Tryd.func7, Tryd.ntmps7
  go_wp2_with fail
  generalize w.alloc _ = w0 at B0 P0 ⊢
  refine (RR.out w0).mono ?_; rintro e wy ⟨rfl, b0⟩
  have B1 := Lib.hid (bel_after B0.out (Nat.le_refl _) b0)
  have P1 := Lib.hid (P0.out.bel b0)
  clear b0 P0 B0
  go_wp2_with (refine wpList_load_row rfl 24 (.tmp 1) rfl w.heap.size rfl 24 (mom d c) (0, 0) _ P1.out Tryd.underlying24 rfl (mom_size d c) ?_)
  refine (SP.out wy).mono ?_; rintro e wz ⟨rfl, b1⟩
  have B2 := Lib.hid (bel_after B1.out (Nat.le_refl _) b1)
  clear b1 P1 B1
  have P1 := Lib.hid (Whole.new wz 30 (six Y M D H I S))
  have B3 := Lib.hid (B2.out.alloc B2.out.size (.cells (six Y M D H I S) 30))
  obtain ⟨w1, hw1⟩ : ∃ W, wz.alloc (.cells (six Y M D H I S) 30) = W := ⟨_, rfl⟩
  rw [hw1] at P1 B3
  have TB : Hid (∀ W, Below w1.heap.size w1 W → Tab W) := Lib.hid (fun W hW => (HT.out.bel B3.out).bel hW)
  simp only [six] at hw1
  go_upto_region 4 with fail
  try rw [hw1]
  clear hw1
  obtain ⟨g, hg⟩ : ∃ g, wz.heap.size = g := ⟨_, rfl⟩
  rw [hg] at P1 ⊢
  clear hg
  refine wp_region_held_drew (S := (fun W => Below w1.heap.size w1 W)) (by kernel_rfl) (Below.refl _ _).drew (fun hHeld => ?_)
  refine wpAnyH_take (i := 0) (oi := ⟨some 12, _, _, _, _, _⟩) (v := ?vb0) rfl (by kernel_rfl) (by kernel_rfl) (by kernel_rfl) (fun _ _ _ h => h) (Or.inl ⟨by rfl, ?hyb0⟩) (by assumption) ?restb0
  case hyb0 => intro W hSW; go_simp; try rfl
  try simp only [Act.put, List.setIfInBounds_toArray, List.set_cons_zero, List.set_cons_succ]
  refine wpAnyH_take (i := 1) (oi := ⟨some 13, _, _, _, _, _⟩) (v := ?vb1) rfl (by kernel_rfl) (by kernel_rfl) (by kernel_rfl) (fun _ _ _ h => h) (Or.inl ⟨by rfl, ?hyb1⟩) (by assumption) ?restb1
  case hyb1 => intro W hSW; obtain ⟨c0, c1, c2, c3, c4, c5⟩ := six_cells (Whole.bel P1.out hSW); go_simp; try rfl
  try simp only [Act.put, List.setIfInBounds_toArray, List.set_cons_zero, List.set_cons_succ]
  refine wpAnyH_take (i := 4) (oi := ⟨some 16, _, _, _, _, _⟩) (v := ?vb4) rfl (by kernel_rfl) (by kernel_rfl) (by kernel_rfl) (fun _ _ _ h => h) (Or.inl ⟨by rfl, ?hyb4⟩) (by assumption) ?restb4
  case hyb4 => intro W hSW; go_simp; try rfl
  try simp only [Act.put, List.setIfInBounds_toArray, List.set_cons_zero, List.set_cons_succ]
  refine wpAnyH_take (i := 5) (oi := ⟨some 17, _, _, _, _, _⟩) (v := ?vb5) rfl (by kernel_rfl) (by kernel_rfl) (by kernel_rfl) (fun _ _ _ h => h) (Or.inl ⟨by rfl, ?hyb5⟩) (by assumption) ?restb5
  case hyb5 => intro W hSW; obtain ⟨c0, c1, c2, c3, c4, c5⟩ := six_cells (Whole.bel P1.out hSW); go_simp; try rfl
  try simp only [Act.put, List.setIfInBounds_toArray, List.set_cons_zero, List.set_cons_succ]
  refine wpAnyH_take (i := 9) (oi := ⟨some 21, _, _, _, _, _⟩) (v := ?vb9) rfl (by kernel_rfl) (by kernel_rfl) (by kernel_rfl) (fun _ _ _ h => h) (Or.inl ⟨by rfl, ?hyb9⟩) (by assumption) ?restb9
  case hyb9 => intro W hSW; go_simp; try rfl
  try simp only [Act.put, List.setIfInBounds_toArray, List.set_cons_zero, List.set_cons_succ]
  refine wpAnyH_take (i := 10) (oi := ⟨some 22, _, _, _, _, _⟩) (v := ?vb10) rfl (by kernel_rfl) (by kernel_rfl) (by kernel_rfl) (fun _ _ _ h => h) (Or.inl ⟨by rfl, ?hyb10⟩) (by assumption) ?restb10
  case hyb10 => intro W hSW; obtain ⟨c0, c1, c2, c3, c4, c5⟩ := six_cells (Whole.bel P1.out hSW); go_simp; try rfl
  try simp only [Act.put, List.setIfInBounds_toArray, List.set_cons_zero, List.set_cons_succ]
  refine wpAnyH_ready (rs := [2]) (by kernel_rfl) (by simp) ?_
  refine AllReadyH.cons (o := ⟨some 14, _, _, _, _, _⟩) rfl (fun K hK => ?_) AllReadyH.nil
  go_simp
  refine (T1.out _ (TB.out _ hHeld)).mono ?_
  rintro e wb0 ⟨rfl, hbb0⟩
  refine hK.out _ _ ?_ (fun hHeld2 => ?_)
  · exact hHeld.trans (hbb0.mono hHeld.size)
  clear hK K hHeld
  have hHeld := hHeld2; clear hHeld2
  try simp only [Act.put, List.setIfInBounds_toArray, List.set_cons_zero, List.set_cons_succ]
  clear hbb0
  refine wpAnyH_take (i := 3) (oi := ⟨some 15, _, _, _, _, _⟩) (v := ?vb3) rfl (by kernel_rfl) (by kernel_rfl) (by kernel_rfl) (fun _ _ _ h => h) (Or.inl ⟨by rfl, ?hyb3⟩) (by assumption) ?restb3
  case hyb3 => intro W hSW; go_simp; try rfl
  try simp only [Act.put, List.setIfInBounds_toArray, List.set_cons_zero, List.set_cons_succ]
  refine wpAnyH_ready (rs := [6]) (by kernel_rfl) (by simp) ?_
  refine AllReadyH.cons (o := ⟨some 18, _, _, _, _, _⟩) rfl (fun K hK => ?_) AllReadyH.nil
  go_simp
  refine (T2.out _).mono ?_
  rintro e wb1 ⟨rfl, hbb1⟩
  refine hK.out _ _ ?_ (fun hHeld2 => ?_)
  · exact hHeld.trans (hbb1.mono hHeld.size)
  clear hK K hHeld
  have hHeld := hHeld2; clear hHeld2
  try simp only [Act.put, List.setIfInBounds_toArray, List.set_cons_zero, List.set_cons_succ]
  clear hbb1
  refine wpAnyH_take (i := 7) (oi := ⟨some 19, _, _, _, _, _⟩) (v := ?vb7) rfl (by kernel_rfl) (by kernel_rfl) (by kernel_rfl) (fun _ _ _ h => h) (Or.inl ⟨by rfl, ?hyb7⟩) (by assumption) ?restb7
  case hyb7 => intro W hSW; go_simp; try rfl
  try simp only [Act.put, List.setIfInBounds_toArray, List.set_cons_zero, List.set_cons_succ]
  refine wpAnyH_take (i := 8) (oi := ⟨some 20, _, _, _, _, _⟩) (v := ?vb8) rfl (by kernel_rfl) (by kernel_rfl) (by kernel_rfl) (fun _ _ _ h => h) (Or.inl ⟨by rfl, ?hyb8⟩) (by assumption) ?restb8
  case hyb8 => intro W hSW; go_simp; try rfl
  try simp only [Act.put, List.setIfInBounds_toArray, List.set_cons_zero, List.set_cons_succ]
  refine wpAnyH_ready (rs := [11]) (by kernel_rfl) (by simp) ?_
  refine AllReadyH.cons (o := ⟨some 23, _, _, _, _, _⟩) rfl (fun K hK => ?_) AllReadyH.nil
  go_simp
  refine (T3.out _).mono ?_
  rintro e wb2 ⟨rfl, hbb2⟩
  refine hK.out _ _ ?_ (fun hHeld2 => ?_)
  · exact hHeld.trans (hbb2.mono hHeld.size)
  clear hK K hHeld
  have hHeld := hHeld2; clear hHeld2
  try simp only [Act.put, List.setIfInBounds_toArray, List.set_cons_zero, List.set_cons_succ]
  clear hbb2
  refine wpAnyH_take (i := 12) (oi := ⟨some 24, _, _, _, _, _⟩) (v := ?vb12) rfl (by kernel_rfl) (by kernel_rfl) (by kernel_rfl) (fun _ _ _ h => h) (Or.inl ⟨by rfl, ?hyb12⟩) (by assumption) ?restb12
  case hyb12 => intro W hSW; go_simp; try rfl
  try simp only [Act.put, List.setIfInBounds_toArray, List.set_cons_zero, List.set_cons_succ]
  refine wpAnyH_take (i := 13) (oi := ⟨some 5, _, _, _, _, _⟩) (v := ?vb13) rfl (by kernel_rfl) (by kernel_rfl) (by kernel_rfl) (fun _ _ _ h => h) (Or.inl ⟨by rfl, ?hyb13⟩) (by assumption) ?restb13
  case hyb13 => intro W hSW; go_simp; try rfl
  try simp only [Act.put, List.setIfInBounds_toArray, List.set_cons_zero, List.set_cons_succ]
  refine wpAnyH_done (by kernel_rfl) ?_ _
  go_upto_region 5 with fail
  refine wp_region_held_drew (S := (fun W => Below w1.heap.size w1 W)) (by kernel_rfl) hHeld.drew (fun hHeld => ?_)
  refine wpAnyH_take (i := 0) (oi := ⟨some 25, _, _, _, _, _⟩) (v := ?vc0) rfl (by kernel_rfl) (by kernel_rfl) (by kernel_rfl) (fun _ _ _ h => h) (Or.inl ⟨by rfl, ?hyc0⟩) (by assumption) ?restc0
  case hyc0 => intro W hSW; go_simp; try rfl
  try simp only [Act.put, List.setIfInBounds_toArray, List.set_cons_zero, List.set_cons_succ]
  refine wpAnyH_take (i := 1) (oi := ⟨some 26, _, _, _, _, _⟩) (v := ?vc1) rfl (by kernel_rfl) (by kernel_rfl) (by kernel_rfl) (fun _ _ _ h => h) (Or.inl ⟨by rfl, ?hyc1⟩) (by assumption) ?restc1
  case hyc1 => intro W hSW; obtain ⟨c0, c1, c2, c3, c4, c5⟩ := six_cells (Whole.bel P1.out hSW); go_simp; try rfl
  try simp only [Act.put, List.setIfInBounds_toArray, List.set_cons_zero, List.set_cons_succ]
  refine wpAnyH_take (i := 4) (oi := ⟨some 29, _, _, _, _, _⟩) (v := ?vc4) rfl (by kernel_rfl) (by kernel_rfl) (by kernel_rfl) (fun _ _ _ h => h) (Or.inl ⟨by rfl, ?hyc4⟩) (by assumption) ?restc4
  case hyc4 => intro W hSW; go_simp; try rfl
  try simp only [Act.put, List.setIfInBounds_toArray, List.set_cons_zero, List.set_cons_succ]
  refine wpAnyH_take (i := 5) (oi := ⟨some 30, _, _, _, _, _⟩) (v := ?vc5) rfl (by kernel_rfl) (by kernel_rfl) (by kernel_rfl) (fun _ _ _ h => h) (Or.inl ⟨by rfl, ?hyc5⟩) (by assumption) ?restc5
  case hyc5 => intro W hSW; obtain ⟨c0, c1, c2, c3, c4, c5⟩ := six_cells (Whole.bel P1.out hSW); go_simp; try rfl
  try simp only [Act.put, List.setIfInBounds_toArray, List.set_cons_zero, List.set_cons_succ]
  refine wpAnyH_take (i := 9) (oi := ⟨some 34, _, _, _, _, _⟩) (v := ?vc9) rfl (by kernel_rfl) (by kernel_rfl) (by kernel_rfl) (fun _ _ _ h => h) (Or.inl ⟨by rfl, ?hyc9⟩) (by assumption) ?restc9
  case hyc9 => intro W hSW; go_simp; try rfl
  try simp only [Act.put, List.setIfInBounds_toArray, List.set_cons_zero, List.set_cons_succ]
  refine wpAnyH_take (i := 10) (oi := ⟨some 35, _, _, _, _, _⟩) (v := ?vc10) rfl (by kernel_rfl) (by kernel_rfl) (by kernel_rfl) (fun _ _ _ h => h) (Or.inl ⟨by rfl, ?hyc10⟩) (by assumption) ?restc10
  case hyc10 => intro W hSW; obtain ⟨c0, c1, c2, c3, c4, c5⟩ := six_cells (Whole.bel P1.out hSW); go_simp; try rfl
  try simp only [Act.put, List.setIfInBounds_toArray, List.set_cons_zero, List.set_cons_succ]
  refine wpAnyH_ready (rs := [2]) (by kernel_rfl) (by simp) ?_
  refine AllReadyH.cons (o := ⟨some 27, _, _, _, _, _⟩) rfl (fun K hK => ?_) AllReadyH.nil
  go_simp
  refine (T4.out _).mono ?_
  rintro e wc0 ⟨rfl, hbc0⟩
  refine hK.out _ _ ?_ (fun hHeld2 => ?_)
  · exact hHeld.trans (hbc0.mono hHeld.size)
  clear hK K hHeld
  have hHeld := hHeld2; clear hHeld2
  try simp only [Act.put, List.setIfInBounds_toArray, List.set_cons_zero, List.set_cons_succ]
  clear hbc0
  refine wpAnyH_take (i := 3) (oi := ⟨some 28, _, _, _, _, _⟩) (v := ?vc3) rfl (by kernel_rfl) (by kernel_rfl) (by kernel_rfl) (fun _ _ _ h => h) (Or.inl ⟨by rfl, ?hyc3⟩) (by assumption) ?restc3
  case hyc3 => intro W hSW; go_simp; try rfl
  try simp only [Act.put, List.setIfInBounds_toArray, List.set_cons_zero, List.set_cons_succ]
  refine wpAnyH_ready (rs := [6]) (by kernel_rfl) (by simp) ?_
  refine AllReadyH.cons (o := ⟨some 31, _, _, _, _, _⟩) rfl (fun K hK => ?_) AllReadyH.nil
  go_simp
  refine (T5.out _).mono ?_
  rintro e wc1 ⟨rfl, hbc1⟩
  refine hK.out _ _ ?_ (fun hHeld2 => ?_)
  · exact hHeld.trans (hbc1.mono hHeld.size)
  clear hK K hHeld
  have hHeld := hHeld2; clear hHeld2
  try simp only [Act.put, List.setIfInBounds_toArray, List.set_cons_zero, List.set_cons_succ]
  clear hbc1
  refine wpAnyH_take (i := 7) (oi := ⟨some 32, _, _, _, _, _⟩) (v := ?vc7) rfl (by kernel_rfl) (by kernel_rfl) (by kernel_rfl) (fun _ _ _ h => h) (Or.inl ⟨by rfl, ?hyc7⟩) (by assumption) ?restc7
  case hyc7 => intro W hSW; go_simp; try rfl
  try simp only [Act.put, List.setIfInBounds_toArray, List.set_cons_zero, List.set_cons_succ]
  refine wpAnyH_take (i := 8) (oi := ⟨some 33, _, _, _, _, _⟩) (v := ?vc8) rfl (by kernel_rfl) (by kernel_rfl) (by kernel_rfl) (fun _ _ _ h => h) (Or.inl ⟨by rfl, ?hyc8⟩) (by assumption) ?restc8
  case hyc8 => intro W hSW; go_simp; try rfl
  try simp only [Act.put, List.setIfInBounds_toArray, List.set_cons_zero, List.set_cons_succ]
  refine wpAnyH_ready (rs := [11]) (by kernel_rfl) (by simp) ?_
  refine AllReadyH.cons (o := ⟨some 36, _, _, _, _, _⟩) rfl (fun K hK => ?_) AllReadyH.nil
  go_simp
  refine (T6.out _).mono ?_
  rintro e wc2 ⟨rfl, hbc2⟩
  refine hK.out _ _ ?_ (fun hHeld2 => ?_)
  · exact hHeld.trans (hbc2.mono hHeld.size)
  clear hK K hHeld
  have hHeld := hHeld2; clear hHeld2
  try simp only [Act.put, List.setIfInBounds_toArray, List.set_cons_zero, List.set_cons_succ]
  clear hbc2
  refine wpAnyH_take (i := 12) (oi := ⟨some 37, _, _, _, _, _⟩) (v := ?vc12) rfl (by kernel_rfl) (by kernel_rfl) (by kernel_rfl) (fun _ _ _ h => h) (Or.inl ⟨by rfl, ?hyc12⟩) (by assumption) ?restc12
  case hyc12 => intro W hSW; go_simp; try rfl
  try simp only [Act.put, List.setIfInBounds_toArray, List.set_cons_zero, List.set_cons_succ]
  refine wpAnyH_take (i := 13) (oi := ⟨some 6, _, _, _, _, _⟩) (v := ?vc13) rfl (by kernel_rfl) (by kernel_rfl) (by kernel_rfl) (fun _ _ _ h => h) (Or.inl ⟨by rfl, ?hyc13⟩) (by assumption) ?restc13
  case hyc13 => intro W hSW; go_simp; try rfl
  try simp only [Act.put, List.setIfInBounds_toArray, List.set_cons_zero, List.set_cons_succ]
  refine wpAnyH_done (by kernel_rfl) ?_ _
  go_wp2_with fail
  go_ret2
  exact ⟨by rw [← hr.out]; rfl, B3.out.trans (hHeld.mono B3.out.size)⟩
end Go.Proofs.YtdoclbgmbneggaaDoor
