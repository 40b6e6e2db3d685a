/-
  The walk of ManifestPrints. Conditions: a number in the library's variable; no more sections and headers than memory holds.
-/
import Derived.Test.YteadhiehhpafjaaDoorQG
import Derived.Test.YteadhiehhpafjaaDoorQC
namespace Go.Proofs.YteadhiehhpafjaaDoor
open Go Go.RowKit
set_option maxRecDepth 100000

theorem few_small {s : Sec} (h : fewS s) : Small s := ⟨by have := h.2; omega, fun p hp => by
  have h1 : p.1.size ≤ 100 := (h.1 p hp).1
  have h2 : p.2.size ≤ 400 := (h.1 p hp).2
  omega⟩
theorem whole_27 {W : World} {g : Nat} {x y : Value} (h : Whole W g 27 #[x, y]) : W.rangeAt g 0 [x, y] := range_two (h.cell 0) (h.cell 1)

set_option maxHeartbeats 8000000 in
theorem prints_yes (main : Sec) (ps : List Sec) (va : Value) (hmb : ∀ s ∈ main :: ps, s.length ≤ 10000000000000) (hp2 : ps.length ≤ 5864062014634) (k1 : Int) (w : World) (hm1 : w.cell? ⟨1, 0, none⟩ = some (.int .i64 k1)) (hV : ManSeen w w.heap.size va main ps) :
    Calls Tryd.prog 4 #[va] w (Gives w (.bool true)) := by
  have h1w : 1 < w.heap.size := World.block_lt_of_cell? w ⟨1, 0, none⟩ hm1
  have HV := Lib.hid hV
  obtain ⟨A, c, A2, c2, rows, rfl, _, _, _⟩ := hV
  obtain ⟨n, hn⟩ : ∃ n, main.length = n := ⟨_, rfl⟩
  obtain ⟨m, hmm⟩ : ∃ m, ps.length = m := ⟨_, rfl⟩
  rw [hn, hmm] at HV ⊢
  have HNM := Lib.hid (And.intro hn hmm)
  clear hn hmm
  obtain ⟨w1, hw1⟩ : ∃ W, w.alloc (.cells #[.slice A n c, .slice A2 m c2] 27) = W := ⟨_, rfl⟩
  have hb1 : Below w.heap.size w w1 := hw1 ▸ (Below.refl w.heap.size w).alloc (Nat.le_refl _) _
  have B1 := Lib.hid hb1
  have P1 : Hid (Whole w1 w.heap.size 27 #[.slice A n c, .slice A2 m c2]) := Lib.hid (hw1 ▸ Whole.new w 27 #[.slice A n c, .slice A2 m c2])
  have hmA : ∀ W, Below w.heap.size w W → W.cell? ⟨1, 0, none⟩ = some (.int .i64 k1) := fun W h => (World.cell?_of_block (a := ⟨1, 0, none⟩) (h.block 1 h1w)).trans hm1
  have HM := Lib.hid hmA
  have FX := Lib.hid (fixed_any k1 w1 (hmA _ hb1))
  have HMB := Lib.hid hmb
  clear hmA hb1 hm1 hmb
  go_enter Tryd.func4, Tryd.ntmps4
  go_wp2_with (first | (go_at_call 7; refine FX.out.mono ?_; rintro e w2 ⟨rfl, b2⟩; have P2 := Lib.hid (P1.out.bel b2); have B2 := Lib.hid (B1.out.trans (b2.mono B1.out.size)); clear b2) | (refine wpList_load_row rfl 27 (.tmp 1) rfl w.heap.size rfl 27 #[.slice A n c, .slice A2 m c2] (0, 0) _ P2.out Tryd.underlying27 rfl (man_size _ _) ?_))
  have M2 := Lib.hid (HV.out.below B2.out)
  refine (few_any w.heap.size _ main ps HMB.out hp2 w2 M2.out B2.out.size).mono ?_
  rintro e w3 ⟨b, rfl, b3, hb⟩
  have B3 := Lib.hid (B2.out.trans (b3.mono B2.out.size))
  have P3 := Lib.hid (P2.out.bel b3)
  have HB := Lib.hid hb
  clear b3 hb
  cases b with
  | false =>
    go_wp2_with fail
    go_ret
    exact ⟨rfl, B3.out⟩
  | true =>
  obtain ⟨hfew, hten⟩ := HB.out rfl
  have hsm : Small main := few_small (hfew main (by simp))
  have hsp : ∀ s ∈ ps, Small s := fun s hs => few_small (hfew s (by simp [hs]))
  have PR := Lib.hid (fun (B : Nat) (v : Value) (W : World) (hV : ManSeen W B v main ps) (hB : B ≤ W.heap.size) => print_any B v main ps hsm hsp (by omega) W hV hB)
  have CK := Lib.hid (fun (B : Nat) (v : Value) (W : World) (hV : ManSeen W B v main ps) (hB : B ≤ W.heap.size) => dcheck_any B v main ps hfew hten W hV hB)
  have DP := Lib.hid (fun (B : Nat) (v : Value) (W : World) (hV : ManSeen W B v main ps) (hB : B ≤ W.heap.size) => dprint_any B v main ps hfew hten W hV hB)
  have SM := Lib.hid (fun (B : Nat) (va vb : Value) (W : World) (h1 : ManSeen W B va main ps) (h2 : ManSeen W B vb main ps) (hB : B ≤ W.heap.size) => same_any B va vb main ps (by have := hsm.1; omega) (fun s hs => by have := (hsp s hs).1; omega) (by omega) W h1 h2 hB)
  have htl := man_few hfew hten
  have HPP := Lib.hid (fun h => parse_print main ps h (by omega))
  obtain ⟨T, hT⟩ : ∃ T, manText main ps = T := ⟨_, rfl⟩
  obtain ⟨t, ht⟩ : ∃ t, T.length = t := ⟨_, rfl⟩
  unfold Prints at PR
  rw [hT] at PR DP HPP htl
  rw [ht] at PR htl
  obtain ⟨r, hr⟩ : ∃ r, manErr main ps = r := ⟨_, rfl⟩
  rw [hr] at PR CK HPP
  have HT := Lib.hid ht
  clear HB hfew hsm hsp hT ht hr HMB hp2
  have M3 := Lib.hid (HV.out.below B3.out)
  go_wp2_with (refine wpList_load_row rfl 27 (.tmp 1) rfl w.heap.size rfl 27 #[.slice A n c, .slice A2 m c2] (0, 0) _ P3.out Tryd.underlying27 rfl (man_size _ _) ?_)
  refine (PR.out w.heap.size _ w3 M3.out B3.out.size).mono ?_
  rintro e w4 ⟨b4, v4, rfl, h4, h5⟩
  have B4 := Lib.hid (B3.out.trans (b4.mono B3.out.size))
  have P4 := Lib.hid (P3.out.bel b4)
  have M4 := Lib.hid (HV.out.below B4.out)
  clear b4
  by_cases hr0 : r = 0
  rotate_left
  · obtain rfl := h4 hr0
    have hne : (r != 0) = true := by rw [bne_iff_ne]; exact hr0
    have hrr : (r == r) = true := by simp
    clear h5 h4
    go_wp2_with (first | (refine wpList_load_row rfl 27 (.tmp 1) rfl w.heap.size rfl 27 #[.slice A n c, .slice A2 m c2] (0, 0) _ P4.out Tryd.underlying27 rfl (man_size _ _) ?_) | (go_at_call 13; refine (CK.out w.heap.size _ w4 M4.out B4.out.size).mono ?_; rintro e w5 ⟨rfl, b5⟩; have B5 := Lib.hid (B4.out.trans (b5.mono B4.out.size)); clear b5))
    go_ret
    exact ⟨rfl, B5.out⟩
  subst hr0
  have h6 := h5 rfl
  obtain ⟨A4, c4, rfl, _⟩ := own_form h6
  have S4 := Lib.hid (Seen.of_own h6)
  clear h4 h5 h6
  go_wp2_with (first | (refine wpList_load_row rfl 27 (.tmp 1) rfl w.heap.size rfl 27 #[.slice A n c, .slice A2 m c2] (0, 0) _ P4.out Tryd.underlying27 rfl (man_size _ _) ?_) | (go_at_call 13; refine (CK.out w.heap.size _ w4 M4.out B4.out.size).mono ?_; rintro e w5 ⟨rfl, b5⟩; have B5 := Lib.hid (B4.out.trans (b5.mono B4.out.size)); have P5 := Lib.hid (P4.out.bel b5); have S5 := Lib.hid ((S4.out.below b5).more b5.size); clear b5))
  have PP := parse_any T t c4 w5.heap.size A4 HT.out (by omega) k1 w5 (HM.out _ B5.out) S5.out (Nat.le_refl _)
  rw [HPP.out (by simp)] at PP
  refine PP.mono ?_
  clear PP
  rintro e w6 ⟨vm6, vp6, rfl, b6, _, g6⟩
  have g7 := (g6 rfl).2
  obtain ⟨A6, n6, c6, A7, n7, c7, rfl, rfl⟩ := man_slices g7
  obtain ⟨hms, _⟩ := man_seen g7
  have HMS := Lib.hid hms
  have B6 : Hid (Below w.heap.size w w6) := Lib.hid (B5.out.trans (b6.mono B5.out.size))
  have P6 := Lib.hid (P5.out.bel b6)
  have S6 := Lib.hid (S5.out.below b6)
  have Z6 := Lib.hid b6.size
  clear g6 g7 hms b6
  obtain ⟨w7, hw7⟩ : ∃ W, (w6.alloc (.cells #[.slice none 0 0, .slice none 0 0] 27)).setRow w6.heap.size #[.slice A6 n6 c6, .slice A7 n7 c7] = W := ⟨_, rfl⟩
  have ZW := Lib.hid (Whole.new w6 27 #[.slice none 0 0, .slice none 0 0])
  have W7 : Hid (Whole w7 w6.heap.size 27 #[.slice A6 n6 c6, .slice A7 n7 c7]) := Lib.hid (hw7 ▸ ZW.out.setRow _)
  have b7 : Below w6.heap.size w6 w7 := hw7 ▸ below_setRow ((Below.refl w6.heap.size w6).alloc (Nat.le_refl _) (.cells #[.slice none 0 0, .slice none 0 0] 27)) #[.slice A6 n6 c6, .slice A7 n7 c7] (Nat.le_refl _)
  have B7 : Hid (Below w.heap.size w w7) := Lib.hid (B6.out.trans (b7.mono B6.out.size))
  have P7 := Lib.hid (P6.out.bel b7)
  have S7 := Lib.hid ((S6.out.below (b7.mono Z6.out)).more (Nat.le_trans Z6.out b7.size))
  have HM7 := Lib.hid ((HMS.out.below b7).more b7.size)
  have HV7 := Lib.hid ((HV.out.below B7.out).more B7.out.size)
  have M7 : Hid (ManSeen w7 w7.heap.size (.agg #[.slice A n c, .slice A2 m c2]) main ps) := HV7
  have hbb : ((tx T).toList == (tx T).toList) = true := by simp
  clear b7
  go_upto_region 10 with (refine wpList_store_row rfl 27 (.tmp 6) (.tmp 33) rfl w6.heap.size #[.slice A6 n6 c6, .slice A7 n7 c7] rfl rfl 27 #[.slice none 0 0, .slice none 0 0] ZW.out (man_size _ _) rfl (two_one (A6, n6, c6) (A7, n7, c7)) ?_; (try rw [hw7]))
  refine wp_region_held_drew (S := (fun W => Below w7.heap.size w7 W)) (by kernel_rfl) (Below.refl _ _).drew (fun hHeld => ?_)
  have hHeld0 := hHeld
  generalize hwd : w7.drew = wd at *
  clear hwd hHeld0
  refine wpAnyH_take (i := 0) (oi := ⟨some 35, _, _, _, _, _⟩) (v := ?vp0_1) rfl (by kernel_rfl) (by kernel_rfl) (by kernel_rfl) (fun _ _ _ h => h) (Or.inl ⟨by rfl, ?hyp0_1⟩) (by assumption) ?restp0_1
  case hyp0_1 => intro W hSW; go_simp; try rfl
  try simp only [Act.put, List.setIfInBounds_toArray, List.set_cons_zero, List.set_cons_succ]
  refine wpAnyH_take (i := 1) (oi := ⟨some 36, _, _, _, _, _⟩) (v := .bool true) rfl (by kernel_rfl) (by kernel_rfl) (by kernel_rfl) (fun _ _ _ h => h) (Or.inl ⟨by rfl, ?hyp1_2⟩) (by assumption) ?restp1_2
  case hyp1_2 => intro W hSW; go_simp; try rfl
  try simp only [Act.put, List.setIfInBounds_toArray, List.set_cons_zero, List.set_cons_succ]
  refine wpAnyH_take (i := 2) (oi := ⟨some 37, _, _, _, _, _⟩) (v := .bool true) rfl (by kernel_rfl) (by kernel_rfl) (by kernel_rfl) (fun _ _ _ h => h) (Or.inl ⟨by rfl, ?hyp2_3⟩) (by assumption) ?restp2_3
  case hyp2_3 => intro W hSW; go_simp; try rfl
  try simp only [Act.put, List.setIfInBounds_toArray, List.set_cons_zero, List.set_cons_succ]
  refine wpAnyH_take (i := 3) (oi := ⟨some 38, _, _, _, _, _⟩) (v := ?vp3_4) rfl (by kernel_rfl) (by kernel_rfl) (by kernel_rfl) (fun _ _ _ h => h) (Or.inl ⟨by rfl, ?hyp3_4⟩) (by assumption) ?restp3_4
  case hyp3_4 => intro W hSW; go_simp; try rfl
  try simp only [Act.put, List.setIfInBounds_toArray, List.set_cons_zero, List.set_cons_succ]
  refine wpAnyH_take (i := 4) (oi := ⟨some 39, _, _, _, _, _⟩) (v := .string (tx T)) rfl (by kernel_rfl) (by kernel_rfl) (by kernel_rfl) (fun _ _ _ h => h) (Or.inl ⟨by rfl, ?hyp4_5⟩) (by assumption) ?restp4_5
  case hyp4_5 => intro W hSW; have cv := conv_bytes (S7.out.below hSW); go_simp; try rfl
  try simp only [Act.put, List.setIfInBounds_toArray, List.set_cons_zero, List.set_cons_succ]
  refine wpAnyH_take (i := 5) (oi := ⟨some 40, _, _, _, _, _⟩) (v := .agg #[.slice A n c, .slice A2 m c2]) rfl (by kernel_rfl) (by kernel_rfl) (by kernel_rfl) (fun _ _ _ h => h) (Or.inl ⟨by rfl, ?hyp5_6⟩) (by assumption) ?restp5_6
  case hyp5_6 => intro W hSW; exact mid_yields W w.heap.size 0 27 [.slice A n c, .slice A2 m c2] _ _ rfl rfl (whole_27 (P7.out.bel hSW)) Tryd.underlying27 rfl (man_size _ _)
  try simp only [Act.put, List.setIfInBounds_toArray, List.set_cons_zero, List.set_cons_succ]
  refine wpAnyH_ready (rs := [6]) (by kernel_rfl) (by simp) ?_
  refine (AllReadyH.cons (o := ⟨some 41, _, _, _, _, _⟩) rfl (fun K hK => ?_) AllReadyH.nil)
  · go_simp
    refine (DP.out _ _ _ ((M7.out.below hHeld).more hHeld.size) (Nat.le_refl _)).mono ?_; rintro ea wa ⟨rfl, hb⟩
    refine hK.out _ _ ?_ (fun hHeld2 => ?_)
    · exact bel_after hHeld (Nat.le_refl _) hb
    clear hK K hHeld
    have hHeld := hHeld2; clear hHeld2
    try simp only [Act.put, List.setIfInBounds_toArray, List.set_cons_zero, List.set_cons_succ]
    clear hb
    refine wpAnyH_take (i := 7) (oi := ⟨some 42, _, _, _, _, _⟩) (v := .bool true) rfl (by kernel_rfl) (by kernel_rfl) (by kernel_rfl) (fun _ _ _ h => h) (Or.inl ⟨by rfl, ?hyp7_8⟩) (by assumption) ?restp7_8
    case hyp7_8 => intro W hSW; go_simp; try rfl
    try simp only [Act.put, List.setIfInBounds_toArray, List.set_cons_zero, List.set_cons_succ]
    refine wpAnyH_take (i := 8) (oi := ⟨some 43, _, _, _, _, _⟩) (v := .bool true) rfl (by kernel_rfl) (by kernel_rfl) (by kernel_rfl) (fun _ _ _ h => h) (Or.inl ⟨by rfl, ?hyp8_9⟩) (by assumption) ?restp8_9
    case hyp8_9 => intro W hSW; go_simp; try rfl
    try simp only [Act.put, List.setIfInBounds_toArray, List.set_cons_zero, List.set_cons_succ]
    refine wpAnyH_take (i := 9) (oi := ⟨some 44, _, _, _, _, _⟩) (v := .bool true) rfl (by kernel_rfl) (by kernel_rfl) (by kernel_rfl) (fun _ _ _ h => h) (Or.inl ⟨by rfl, ?hyp9_10⟩) (by assumption) ?restp9_10
    case hyp9_10 => intro W hSW; go_simp; try rfl
    try simp only [Act.put, List.setIfInBounds_toArray, List.set_cons_zero, List.set_cons_succ]
    refine wpAnyH_take (i := 10) (oi := ⟨some 45, _, _, _, _, _⟩) (v := ?vp10_11) rfl (by kernel_rfl) (by kernel_rfl) (by kernel_rfl) (fun _ _ _ h => h) (Or.inl ⟨by rfl, ?hyp10_11⟩) (by assumption) ?restp10_11
    case hyp10_11 => intro W hSW; go_simp; try rfl
    try simp only [Act.put, List.setIfInBounds_toArray, List.set_cons_zero, List.set_cons_succ]
    refine wpAnyH_take (i := 11) (oi := ⟨some 46, _, _, _, _, _⟩) (v := .bool true) rfl (by kernel_rfl) (by kernel_rfl) (by kernel_rfl) (fun _ _ _ h => h) (Or.inl ⟨by rfl, ?hyp11_12⟩) (by assumption) ?restp11_12
    case hyp11_12 => intro W hSW; go_simp; try rfl
    try simp only [Act.put, List.setIfInBounds_toArray, List.set_cons_zero, List.set_cons_succ]
    refine wpAnyH_take (i := 12) (oi := ⟨some 47, _, _, _, _, _⟩) (v := .bool true) rfl (by kernel_rfl) (by kernel_rfl) (by kernel_rfl) (fun _ _ _ h => h) (Or.inl ⟨by rfl, ?hyp12_13⟩) (by assumption) ?restp12_13
    case hyp12_13 => intro W hSW; go_simp; try rfl
    try simp only [Act.put, List.setIfInBounds_toArray, List.set_cons_zero, List.set_cons_succ]
    refine wpAnyH_take (i := 13) (oi := ⟨some 48, _, _, _, _, _⟩) (v := .bool true) rfl (by kernel_rfl) (by kernel_rfl) (by kernel_rfl) (fun _ _ _ h => h) (Or.inl ⟨by rfl, ?hyp13_14⟩) (by assumption) ?restp13_14
    case hyp13_14 => intro W hSW; go_simp; try rfl
    try simp only [Act.put, List.setIfInBounds_toArray, List.set_cons_zero, List.set_cons_succ]
    refine wpAnyH_take (i := 14) (oi := ⟨some 49, _, _, _, _, _⟩) (v := .agg #[.slice A6 n6 c6, .slice A7 n7 c7]) rfl (by kernel_rfl) (by kernel_rfl) (by kernel_rfl) (fun _ _ _ h => h) (Or.inl ⟨by rfl, ?hyp14_15⟩) (by assumption) ?restp14_15
    case hyp14_15 => intro W hSW; exact mid_yields W w6.heap.size 0 27 [.slice A6 n6 c6, .slice A7 n7 c7] _ _ rfl rfl (whole_27 (W7.out.bel hSW)) Tryd.underlying27 rfl (man_size _ _)
    try simp only [Act.put, List.setIfInBounds_toArray, List.set_cons_zero, List.set_cons_succ]
    refine wpAnyH_take (i := 15) (oi := ⟨some 50, _, _, _, _, _⟩) (v := .agg #[.slice A n c, .slice A2 m c2]) rfl (by kernel_rfl) (by kernel_rfl) (by kernel_rfl) (fun _ _ _ h => h) (Or.inl ⟨by rfl, ?hyp15_16⟩) (by assumption) ?restp15_16
    case hyp15_16 => intro W hSW; exact mid_yields W w.heap.size 0 27 [.slice A n c, .slice A2 m c2] _ _ rfl rfl (whole_27 (P7.out.bel hSW)) Tryd.underlying27 rfl (man_size _ _)
    try simp only [Act.put, List.setIfInBounds_toArray, List.set_cons_zero, List.set_cons_succ]
    refine wpAnyH_ready (rs := [16]) (by kernel_rfl) (by simp) ?_
    refine (AllReadyH.cons (o := ⟨some 51, _, _, _, _, _⟩) rfl (fun K hK => ?_) AllReadyH.nil)
    · go_simp
      refine (SM.out _ _ _ _ ((HM7.out.below hHeld).more hHeld.size) ((M7.out.below hHeld).more hHeld.size) (Nat.le_refl _)).mono ?_; rintro eb wb ⟨rfl, hb⟩
      refine hK.out _ _ ?_ (fun hHeld2 => ?_)
      · exact bel_after hHeld (Nat.le_refl _) hb
      clear hK K hHeld
      have hHeld := hHeld2; clear hHeld2
      try simp only [Act.put, List.setIfInBounds_toArray, List.set_cons_zero, List.set_cons_succ]
      clear hb
      refine wpAnyH_take (i := 17) (oi := ⟨some 52, _, _, _, _, _⟩) (v := .bool true) rfl (by kernel_rfl) (by kernel_rfl) (by kernel_rfl) (fun _ _ _ h => h) (Or.inl ⟨by rfl, ?hyp17_18⟩) (by assumption) ?restp17_18
      case hyp17_18 => intro W hSW; go_simp; try rfl
      try simp only [Act.put, List.setIfInBounds_toArray, List.set_cons_zero, List.set_cons_succ]
      refine wpAnyH_take (i := 18) (oi := ⟨some 2, _, _, _, _, _⟩) (v := ?vp18_19) rfl (by kernel_rfl) (by kernel_rfl) (by kernel_rfl) (fun _ _ _ h => h) (Or.inl ⟨by rfl, ?hyp18_19⟩) (by assumption) ?restp18_19
      case hyp18_19 => intro W hSW; go_simp; try rfl
      try simp only [Act.put, List.setIfInBounds_toArray, List.set_cons_zero, List.set_cons_succ]
      refine wpAnyH_done (by kernel_rfl) ?_ _
      have HB9 := Lib.hid hHeld
      clear hHeld
      go_wp2_with fail
      go_ret
      exact ⟨rfl, B7.out.trans (HB9.out.mono B7.out.size)⟩
end Go.Proofs.YteadhiehhpafjaaDoor
