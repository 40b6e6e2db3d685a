/-
  MomentTells: the law's walk. Conditions: dates and clocks are numbers of 16 bits; the table of powers of ten is as the library lays it.
-/
import Derived.Test.YtdoclbgmbneggaaDoorQ
namespace Go.Proofs.YtdoclbgmbneggaaDoor
open Go.RowKit
set_option maxRecDepth 100000

theorem mom_two {w : World} {g a b : Nat} (h : Whole w g 24 (mom a b)) : w.cell? ⟨g, 0, none⟩ = some (.int .u16 a) ∧ w.cell? ⟨g, 1, none⟩ = some (.int .u16 b) := ⟨h.cell 0, h.cell 1⟩
/-- What is printed. -/
def prX (d c : Nat) : ByteArray := if rightM d c = true then pr d c else ⟨#[]⟩
def prE (d c : Nat) : Int := if rightM d c = true then 0 else 5
theorem print_all (d c : Nat) (hd : d < 65536) (hc : c < 65536) (w : World) (ht : Tab w) : Calls Tryd.prog 7 #[.agg #[.int .u16 d, .int .u16 c]] w (Gives w (.tuple #[.string (prX d c), .int .i64 (prE d c)])) := by
  unfold prX prE
  by_cases h : rightM d c = true
  · rw [if_pos h, if_pos h]; exact print_any d c hd hc h w ht
  · rw [if_neg h, if_neg h]; exact print_bad d c hd hc (by simpa using h) w
/-- What a moment's numbers make. -/
theorem jo_all (d c : Nat) (hd : d < 65536) (hc : c < 65536) : jo (yr d) (mo d) (da d) (ho c) (mi c) (se c) = if rightM d c = true then (d, c, 0) else (0, 0, 5) := by
  by_cases h : rightM d c = true
  · rw [if_pos h]; exact jo_split d c hd hc h
  · rw [if_neg h]; exact jo_wrong d c (by simpa using h)

theorem eq32 (y m d h i s : Int) (w : World) : (Op.equalIn 10000 32 (.agg #[.int .i64 y, .int .i64 m, .int .i64 d, .int .i64 h, .int .i64 i, .int .i64 s]) (.agg #[.int .i64 y, .int .i64 m, .int .i64 d, .int .i64 h, .int .i64 i, .int .i64 s])).run Tryd.prog w = .ok true w := by
  have u3 := Tryd.underlying3
  have a3 := Tryd.isAgg3
  have z3 := Tryd.sizeOf3
  rw [show (10000 : Nat) = 9999 + 1 from rfl, Op.equalIn]
  simp only [Sem.run_bind, run_underlying Tryd.underlying32, Result.andThen_ok]
  simp only [Std.Legacy.Range.forIn_eq_forIn_range', Std.Legacy.Range.size, Nat.sub_zero, Nat.add_sub_cancel, Nat.div_one, List.range'_succ, List.range'_zero, List.forIn_cons, List.forIn_nil]
  go_simp
set_option maxHeartbeats 2000000 in
theorem tells_yes (d c d2 c2 : Nat) (hd : d < 65536) (hc : c < 65536) (hd2 : d2 < 65536) (hc2 : c2 < 65536) (w : World) (ht : Tab w) : Calls Tryd.prog 3 #[.agg #[.int .u16 d, .int .u16 c], .agg #[.int .u16 d2, .int .u16 c2]] w (Gives w (.bool true)) := by
  have FX := Lib.hid (fun W hW => fixed_yes W hW)
  have PR := Lib.hid (fun W hW => print_all d c hd hc W hW)
  have SP := Lib.hid (fun W => split_any d c hd hc W)
  have RS := Lib.hid (fun W => refSplit_any d c hd hc W)
  have LI := Lib.hid (fun W => list_any (yr d) (mo d) (da d) (ho c) (mi c) (se c) W)
  have RI := Lib.hid (fun W => right_any d c hd hc W)
  have RR := Lib.hid (fun W => refRight_any d c hd hc W)
  have BE := Lib.hid (fun W => before_any d c d2 c2 hd hc hd2 hc2 W)
  have JC := Lib.hid (fun W => join_any (yr d) (mo d) (da d) (ho c) (mi c) (se c) W)
  have PA := Lib.hid (fun (hr : rightM d c = true) W hW => by
    have h := parse_any (pr d c) W hW
    rw [paM_pr d c hd hc hr] at h
    exact h)
  have RP := Lib.hid (fun W => refPrint_any d c hd hc W)
  rw [jo_all d c hd hc] at JC
  obtain ⟨x, hx⟩ : ∃ x, decide (d * 65536 + c < d2 * 65536 + c2) = x := ⟨_, rfl⟩
  rw [hx] at BE
  have HX : Hid (decide (d * 65536 + c < d2 * 65536 + c2) = x ∧ d < 65536 ∧ c < 65536 ∧ d2 < 65536 ∧ c2 < 65536) := Lib.hid ⟨hx, hd, hc, hd2, hc2⟩
  obtain ⟨b, hb⟩ : ∃ x, rightM d c = x := ⟨_, rfl⟩
  unfold prX prE at PR
  rw [hb] at PR RI RR JC PA
  generalize pr d c = tx at *
  obtain ⟨ja, jb, je, hJ⟩ : ∃ ja jb je, (if b = true then (d, c, 0) else (0, 0, 5) : Nat × Nat × Int) = (ja, jb, je) := ⟨_, _, _, rfl⟩
  rw [hJ] at JC
  obtain ⟨sx, hsx⟩ : ∃ s, (if b = true then tx else ⟨#[]⟩) = s := ⟨_, rfl⟩
  obtain ⟨ex, hex⟩ : ∃ s, (if b = true then 0 else 5 : Int) = s := ⟨_, rfl⟩
  rw [hsx, hex] at PR
  have HJ := Lib.hid hJ; have HS := Lib.hid hsx; have HE := Lib.hid hex
  simp only [joV, mom] at JC PA
  generalize yr d = Y at *
  generalize mo d = M at *
  generalize da d = D at *
  generalize ho c = H at *
  generalize mi c = I at *
  generalize se c = S at *
  have HT := Lib.hid ht
  clear ht hx hd hc hd2 hc2 hb hJ hsx hex
  have F2 := Lib.hid (Whole.new w 24 (mom d c))
  have F3 := Lib.hid (Whole.new (w.alloc (.cells (mom d c) 24)) 24 (mom d2 c2))
  have B0 := Lib.hid (((Below.refl w.heap.size w).alloc (Nat.le_refl _) (.cells (mom d c) 24)).alloc (by simp) (.cells (mom d2 c2) 24))
  go_enter Tryd.func3, Tryd.ntmps3
  go_wp2_with fail
  have P2 : Hid (Whole ((w.alloc (.cells (mom d c) 24)).alloc (.cells (mom d2 c2) 24)) w.heap.size 24 (mom d c)) := Lib.hid (F2.out.bel ((Below.refl _ _).alloc (Nat.le_refl _) _))
  have P3 : Hid (Whole ((w.alloc (.cells (mom d c) 24)).alloc (.cells (mom d2 c2) 24)) (w.heap.size + 1) 24 (mom d2 c2)) := by
    have hz := F3
    rw [show (w.alloc (.cells (mom d c) 24)).heap.size = w.heap.size + 1 by simp] at hz
    exact hz
  clear F2 F3
  obtain ⟨wa, hwa⟩ : ∃ W, (w.alloc (.cells (mom d c) 24)).alloc (.cells (mom d2 c2) 24) = W := ⟨_, rfl⟩
  rw [hwa] at P2 P3 B0
  simp only [mom] at hwa
  rw [hwa]
  clear hwa
  obtain ⟨g2, hg2⟩ : ∃ g, w.heap.size = g := ⟨_, rfl⟩
  obtain ⟨g3, hg3⟩ : ∃ g, w.heap.size + 1 = g := ⟨_, rfl⟩
  rw [hg3] at P3 ⊢
  rw [hg2] at P2 ⊢
  clear hg2 hg3
  have B1 := B0; clear B0
  refine (FX.out wa (HT.out.bel B1.out)).mono ?_; rintro e wb ⟨rfl, b1⟩
  have B2 := Lib.hid (bel_after B1.out (Nat.le_refl _) b1); have P2b := Lib.hid (P2.out.bel b1); have P3b := Lib.hid (P3.out.bel b1)
  clear b1 B1 P2 P3 FX
  obtain ⟨e0, e1⟩ := mom_two P2b.out
  go_wp2_with fail
  clear e0 e1
  refine (PR.out wb (HT.out.bel B2.out)).mono ?_; rintro e wc ⟨rfl, b1⟩
  have B3 := Lib.hid (bel_after B2.out (Nat.le_refl _) b1); have P2c := Lib.hid (P2b.out.bel b1); have P3c := Lib.hid (P3b.out.bel b1)
  clear b1 B2 P2b P3b PR
  obtain ⟨e0, e1⟩ := mom_two P2c.out
  go_wp2_with fail
  clear e0 e1
  refine (SP.out wc).mono ?_; rintro e wd ⟨rfl, b1⟩
  have B4 := Lib.hid (bel_after B3.out (Nat.le_refl _) b1); have P2d := Lib.hid (P2c.out.bel b1); have P3d := Lib.hid (P3c.out.bel b1)
  clear b1 B3 P2c P3c SP
  have P7 := Lib.hid (Whole.new wd 30 (six Y M D H I S))
  have B5 := Lib.hid (B4.out.alloc B4.out.size (.cells (six Y M D H I S) 30))
  have P2 := Lib.hid (P2d.out.bel ((Below.refl wd.heap.size wd).alloc (Nat.le_refl _) (.cells (six Y M D H I S) 30)))
  have P3 := Lib.hid (P3d.out.bel ((Below.refl wd.heap.size wd).alloc (Nat.le_refl _) (.cells (six Y M D H I S) 30)))
  clear P2d P3d B4
  simp only [six] at P7 B5 P2 P3
  go_upto_region 5 with fail
  generalize wd.alloc _ = w3 at P7 B5 P2 P3 ⊢
  obtain ⟨g7, hg7⟩ : ∃ g, wd.heap.size = g := ⟨_, rfl⟩
  rw [hg7] at P7 ⊢
  clear hg7
  go_cut [8] (fun s8 wx => s8 = .bool x ∧ w3 = wx)
  case first =>
    obtain ⟨e0, e1⟩ := mom_two P2.out
    obtain ⟨f0, f1⟩ := mom_two P3.out
    obtain ⟨hx, a1, a2, a3, a4⟩ := HX.out
    by_cases h1 : d < d2
    · obtain rfl : x = true := by rw [← hx]; simp; omega
      clear hx a1 a2 a3 a4
      have q1 : decide ((d : Int) < d2) = true := by simpa using h1
      go_wp2_with fail
      go_meet
      case rel => exact ⟨rfl, rfl⟩
    · have q1 : decide ((d : Int) < d2) = false := by simpa using h1
      by_cases h2 : d = d2
      · subst h2
        by_cases h3 : c < c2
        · obtain rfl : x = true := by rw [← hx]; simp; omega
          clear hx a1 a2 a3 a4
          have q2 : decide ((c : Int) < c2) = true := by simpa using h3
          go_wp2_with fail
          go_meet
          case rel => exact ⟨rfl, rfl⟩
        · obtain rfl : x = false := by rw [← hx]; simp; omega
          clear hx a1 a2 a3 a4
          have q2 : decide ((c : Int) < c2) = false := by simpa using h3
          go_wp2_with fail
          go_meet
          case rel => exact ⟨rfl, rfl⟩
      · obtain rfl : x = false := by rw [← hx]; simp; omega
        clear hx a1 a2 a3 a4
        have q2 : ((d : Int) == d2) = false := by simp only [beq_eq_false_iff_ne]; omega
        go_wp2_with fail
        go_meet
        case rel => exact ⟨rfl, rfl⟩
  case rest =>
    obtain ⟨rfl, rfl⟩ := hcut
    clear HX
    go_upto_region 6 with fail
    refine wp_region_held_drew (S := (fun W => Below w3.heap.size w3 W)) (by kernel_rfl) (Below.refl _ _).drew (fun hHeld => ?_)
    refine wpAnyH_take (i := 0) (oi := ⟨some 41, _, _, _, _, _⟩) (v := ?vb0) rfl (by kernel_rfl) (by kernel_rfl) (by kernel_rfl) (fun _ _ _ h => h) (Or.inl ⟨by rfl, ?hyb0⟩) (by assumption) ?restb0
    case hyb0 => intro W hSW; obtain ⟨c0, c1, c2, c3, c4, c5⟩ := six_cells (Whole.bel P7.out hSW); go_simp; try rfl
    try simp only [Act.put, List.setIfInBounds_toArray, List.set_cons_zero, List.set_cons_succ]
    refine wpAnyH_take (i := 2) (oi := ⟨some 43, _, _, _, _, _⟩) (v := ?vb2) rfl (by kernel_rfl) (by kernel_rfl) (by kernel_rfl) (fun _ _ _ h => h) (Or.inl ⟨by rfl, ?hyb2⟩) (by assumption) ?restb2
    case hyb2 => intro W hSW; obtain ⟨e0, e1⟩ := mom_two (Whole.bel P2.out hSW); go_simp; try rfl
    try simp only [Act.put, List.setIfInBounds_toArray, List.set_cons_zero, List.set_cons_succ]
    refine wpAnyH_ready (rs := [1]) (by kernel_rfl) (by simp) ?_
    refine AllReadyH.cons (o := ⟨some 42, _, _, _, _, _⟩) rfl (fun K hK => ?_) AllReadyH.nil
    go_simp
    refine (LI.out _).mono ?_
    rintro e wa0 ⟨rfl, hba0⟩
    refine hK.out _ _ ?_ (fun hHeld2 => ?_)
    · exact hHeld.trans (hba0.mono hHeld.size)
    clear hK K hHeld
    have hHeld := hHeld2; clear hHeld2
    try simp only [Act.put, List.setIfInBounds_toArray, List.set_cons_zero, List.set_cons_succ]
    clear hba0
    refine wpAnyH_ready (rs := [3]) (by kernel_rfl) (by simp) ?_
    refine AllReadyH.cons (o := ⟨some 44, _, _, _, _, _⟩) rfl (fun K hK => ?_) AllReadyH.nil
    go_simp
    refine (RS.out _).mono ?_
    rintro e wa1 ⟨rfl, hba1⟩
    refine hK.out _ _ ?_ (fun hHeld2 => ?_)
    · exact hHeld.trans (hba1.mono hHeld.size)
    clear hK K hHeld
    have hHeld := hHeld2; clear hHeld2
    try simp only [Act.put, List.setIfInBounds_toArray, List.set_cons_zero, List.set_cons_succ]
    clear hba1
    refine wpAnyH_take (i := 4) (oi := ⟨some 45, _, _, _, _, _⟩) (v := ?vb4) rfl (by kernel_rfl) (by kernel_rfl) (by kernel_rfl) (fun _ _ _ h => h) (Or.inl ⟨by rfl, ?hyb4⟩) (by assumption) ?restb4
    case hyb4 => intro W hSW; have q32 := eq32 Y M D H I S W; go_simp; try rfl
    try simp only [Act.put, List.setIfInBounds_toArray, List.set_cons_zero, List.set_cons_succ]
    refine wpAnyH_take (i := 5) (oi := ⟨some 46, _, _, _, _, _⟩) (v := ?vb5) rfl (by kernel_rfl) (by kernel_rfl) (by kernel_rfl) (fun _ _ _ h => h) (Or.inl ⟨by rfl, ?hyb5⟩) (by assumption) ?restb5
    case hyb5 => intro W hSW; go_simp; try rfl
    try simp only [Act.put, List.setIfInBounds_toArray, List.set_cons_zero, List.set_cons_succ]
    refine wpAnyH_take (i := 6) (oi := ⟨some 47, _, _, _, _, _⟩) (v := ?vb6) rfl (by kernel_rfl) (by kernel_rfl) (by kernel_rfl) (fun _ _ _ h => h) (Or.inl ⟨by rfl, ?hyb6⟩) (by assumption) ?restb6
    case hyb6 => intro W hSW; obtain ⟨e0, e1⟩ := mom_two (Whole.bel P2.out hSW); go_simp; try rfl
    try simp only [Act.put, List.setIfInBounds_toArray, List.set_cons_zero, List.set_cons_succ]
    refine wpAnyH_take (i := 8) (oi := ⟨some 49, _, _, _, _, _⟩) (v := ?vb8) rfl (by kernel_rfl) (by kernel_rfl) (by kernel_rfl) (fun _ _ _ h => h) (Or.inl ⟨by rfl, ?hyb8⟩) (by assumption) ?restb8
    case hyb8 => intro W hSW; obtain ⟨e0, e1⟩ := mom_two (Whole.bel P2.out hSW); go_simp; try rfl
    try simp only [Act.put, List.setIfInBounds_toArray, List.set_cons_zero, List.set_cons_succ]
    refine wpAnyH_ready (rs := [7]) (by kernel_rfl) (by simp) ?_
    refine AllReadyH.cons (o := ⟨some 48, _, _, _, _, _⟩) rfl (fun K hK => ?_) AllReadyH.nil
    go_simp
    refine (RI.out _).mono ?_
    rintro e wa2 ⟨rfl, hba2⟩
    refine hK.out _ _ ?_ (fun hHeld2 => ?_)
    · exact hHeld.trans (hba2.mono hHeld.size)
    clear hK K hHeld
    have hHeld := hHeld2; clear hHeld2
    try simp only [Act.put, List.setIfInBounds_toArray, List.set_cons_zero, List.set_cons_succ]
    clear hba2
    refine wpAnyH_ready (rs := [9]) (by kernel_rfl) (by simp) ?_
    refine AllReadyH.cons (o := ⟨some 50, _, _, _, _, _⟩) rfl (fun K hK => ?_) AllReadyH.nil
    go_simp
    refine (RR.out _).mono ?_
    rintro e wa3 ⟨rfl, hba3⟩
    refine hK.out _ _ ?_ (fun hHeld2 => ?_)
    · exact hHeld.trans (hba3.mono hHeld.size)
    clear hK K hHeld
    have hHeld := hHeld2; clear hHeld2
    try simp only [Act.put, List.setIfInBounds_toArray, List.set_cons_zero, List.set_cons_succ]
    clear hba3
    refine wpAnyH_take (i := 10) (oi := ⟨some 51, _, _, _, _, _⟩) (v := ?vb10) rfl (by kernel_rfl) (by kernel_rfl) (by kernel_rfl) (fun _ _ _ h => h) (Or.inl ⟨by rfl, ?hyb10⟩) (by assumption) ?restb10
    case hyb10 => intro W hSW; go_simp; try rfl
    try simp only [Act.put, List.setIfInBounds_toArray, List.set_cons_zero, List.set_cons_succ]
    refine wpAnyH_take (i := 11) (oi := ⟨some 52, _, _, _, _, _⟩) (v := ?vb11) rfl (by kernel_rfl) (by kernel_rfl) (by kernel_rfl) (fun _ _ _ h => h) (Or.inl ⟨by rfl, ?hyb11⟩) (by assumption) ?restb11
    case hyb11 => intro W hSW; go_simp; try rfl
    try simp only [Act.put, List.setIfInBounds_toArray, List.set_cons_zero, List.set_cons_succ]
    refine wpAnyH_take (i := 12) (oi := ⟨some 53, _, _, _, _, _⟩) (v := ?vb12) rfl (by kernel_rfl) (by kernel_rfl) (by kernel_rfl) (fun _ _ _ h => h) (Or.inl ⟨by rfl, ?hyb12⟩) (by assumption) ?restb12
    case hyb12 => intro W hSW; go_simp; try rfl
    try simp only [Act.put, List.setIfInBounds_toArray, List.set_cons_zero, List.set_cons_succ]
    refine wpAnyH_take (i := 13) (oi := ⟨some 54, _, _, _, _, _⟩) (v := ?vb13) rfl (by kernel_rfl) (by kernel_rfl) (by kernel_rfl) (fun _ _ _ h => h) (Or.inl ⟨by rfl, ?hyb13⟩) (by assumption) ?restb13
    case hyb13 => intro W hSW; obtain ⟨e0, e1⟩ := mom_two (Whole.bel P2.out hSW); go_simp; try rfl
    try simp only [Act.put, List.setIfInBounds_toArray, List.set_cons_zero, List.set_cons_succ]
    refine wpAnyH_take (i := 14) (oi := ⟨some 55, _, _, _, _, _⟩) (v := ?vb14) rfl (by kernel_rfl) (by kernel_rfl) (by kernel_rfl) (fun _ _ _ h => h) (Or.inl ⟨by rfl, ?hyb14⟩) (by assumption) ?restb14
    case hyb14 => intro W hSW; obtain ⟨f0, f1⟩ := mom_two (Whole.bel P3.out hSW); go_simp; try rfl
    try simp only [Act.put, List.setIfInBounds_toArray, List.set_cons_zero, List.set_cons_succ]
    refine wpAnyH_take (i := 16) (oi := ⟨some 57, _, _, _, _, _⟩) (v := ?vb16) rfl (by kernel_rfl) (by kernel_rfl) (by kernel_rfl) (fun _ _ _ h => h) (Or.inl ⟨by rfl, ?hyb16⟩) (by assumption) ?restb16
    case hyb16 => intro W hSW; go_simp; try rfl
    try simp only [Act.put, List.setIfInBounds_toArray, List.set_cons_zero, List.set_cons_succ]
    refine wpAnyH_ready (rs := [15]) (by kernel_rfl) (by simp) ?_
    refine AllReadyH.cons (o := ⟨some 56, _, _, _, _, _⟩) rfl (fun K hK => ?_) AllReadyH.nil
    go_simp
    refine (BE.out _).mono ?_
    rintro e wa4 ⟨rfl, hba4⟩
    refine hK.out _ _ ?_ (fun hHeld2 => ?_)
    · exact hHeld.trans (hba4.mono hHeld.size)
    clear hK K hHeld
    have hHeld := hHeld2; clear hHeld2
    try simp only [Act.put, List.setIfInBounds_toArray, List.set_cons_zero, List.set_cons_succ]
    clear hba4
    refine wpAnyH_take (i := 17) (oi := ⟨some 58, _, _, _, _, _⟩) (v := ?vb17) rfl (by kernel_rfl) (by kernel_rfl) (by kernel_rfl) (fun _ _ _ h => h) (Or.inl ⟨by rfl, ?hyb17⟩) (by assumption) ?restb17
    case hyb17 => intro W hSW; go_simp; try rfl
    try simp only [Act.put, List.setIfInBounds_toArray, List.set_cons_zero, List.set_cons_succ]
    refine wpAnyH_take (i := 18) (oi := ⟨some 59, _, _, _, _, _⟩) (v := ?vb18) rfl (by kernel_rfl) (by kernel_rfl) (by kernel_rfl) (fun _ _ _ h => h) (Or.inl ⟨by rfl, ?hyb18⟩) (by assumption) ?restb18
    case hyb18 => intro W hSW; go_simp; try rfl
    try simp only [Act.put, List.setIfInBounds_toArray, List.set_cons_zero, List.set_cons_succ]
    refine wpAnyH_done (by kernel_rfl) ?_ _
    go_upto_region 8 with fail
    have B6 := Lib.hid (bel_after B5.out (Nat.le_refl _) hHeld); have Q2 := Lib.hid (P2.out.bel hHeld); have Q7 := Lib.hid (Whole.bel P7.out hHeld)
    clear hHeld P2 P3 P7 B5
    obtain ⟨c0, c1, c2, c3, c4, c5⟩ := six_cells Q7.out
    go_wp2_with fail
    clear c0 c1 c2 c3 c4 c5
    refine (JC.out _).mono ?_; rintro e w5 ⟨rfl, b1⟩
    have B7 := Lib.hid (bel_after B6.out (Nat.le_refl _) b1); have R2 := Lib.hid (Q2.out.bel b1)
    clear b1 B6 Q2 Q7
    have P9 := Lib.hid (Whole.new w5 24 (mom ja jb))
    have B8 := Lib.hid (B7.out.alloc B7.out.size (.cells (mom ja jb) 24))
    have P2 := Lib.hid (R2.out.bel ((Below.refl w5.heap.size w5).alloc (Nat.le_refl _) (.cells (mom ja jb) 24)))
    clear R2 B7
    simp only [mom] at P9 B8 P2
    go_upto_region 9 with fail
    generalize w5.alloc _ = w6 at P9 B8 P2 ⊢
    obtain ⟨g9, hg9⟩ : ∃ g, w5.heap.size = g := ⟨_, rfl⟩
    rw [hg9] at P9 ⊢
    clear hg9
    obtain ⟨e0, e1⟩ := mom_two P2.out
    go_wp2_with fail
    clear e0 e1
    refine (RR.out _).mono ?_; rintro e w7 ⟨rfl, b1⟩
    have B9 := Lib.hid (bel_after B8.out (Nat.le_refl _) b1); have Q2 := Lib.hid (P2.out.bel b1); have Q9 := Lib.hid (Whole.bel P9.out b1)
    clear b1 B8 P2 P9
    have hJ := HJ.out; have hS := HS.out; have hE := HE.out
    clear HJ HS HE
    cases b
    · simp only [Bool.false_eq_true, if_false, Prod.mk.injEq] at hJ hS hE
      obtain ⟨rfl, rfl, rfl⟩ := hJ
      subst hS; subst hE
      go_wp2_with fail
      go_ret
      exact ⟨rfl, B9.out⟩
    · simp only [if_true, Prod.mk.injEq] at hJ hS hE
      obtain ⟨rfl, rfl, rfl⟩ := hJ
      subst hS; subst hE
      have hx : (tx.toList == tx.toList) = true := by simp
      go_wp2_with fail
      refine (PA.out (by simp) _ (HT.out.bel B9.out)).mono ?_; rintro e w8 ⟨rfl, b1⟩
      have B10 := Lib.hid (bel_after B9.out (Nat.le_refl _) b1); have R2 := Lib.hid (Q2.out.bel b1); have R9 := Lib.hid (Whole.bel Q9.out b1)
      clear b1 B9 Q2 Q9
      have P11 := Lib.hid (Whole.new w8 24 (mom d c))
      have B11 := Lib.hid (B10.out.alloc B10.out.size (.cells (mom d c) 24))
      have P2 := Lib.hid (R2.out.bel ((Below.refl w8.heap.size w8).alloc (Nat.le_refl _) (.cells (mom d c) 24)))
      have P9 := Lib.hid (R9.out.bel ((Below.refl w8.heap.size w8).alloc (Nat.le_refl _) (.cells (mom d c) 24)))
      clear R2 R9 B10
      simp only [mom] at P11 B11 P2 P9
      go_upto_region 12 with fail
      generalize w8.alloc _ = w9 at P11 B11 P2 P9 ⊢
      obtain ⟨g11, hg11⟩ : ∃ g, w8.heap.size = g := ⟨_, rfl⟩
      rw [hg11] at P11 ⊢
      clear hg11
      obtain ⟨e0, e1⟩ := mom_two P2.out
      go_wp2_with fail
      clear e0 e1
      refine (RP.out _).mono ?_; rintro e w10 ⟨rfl, b1⟩
      have B12 := Lib.hid (bel_after B11.out (Nat.le_refl _) b1)
      obtain ⟨e0, e1⟩ := mom_two (P2.out.bel b1)
      obtain ⟨f0, f1⟩ := mom_two (Whole.bel P9.out b1)
      obtain ⟨h0, h1⟩ := mom_two (Whole.bel P11.out b1)
      clear b1 P2 P9 P11 B11
      go_wp2_with fail
      go_ret
      exact ⟨rfl, B12.out⟩
end Go.Proofs.YtdoclbgmbneggaaDoor
