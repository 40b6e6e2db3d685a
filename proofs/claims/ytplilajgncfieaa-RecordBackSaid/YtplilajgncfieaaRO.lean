/-
  RecordWrites: any record's bytes, of each kind, are the document's. Conditions: none (names of more than 300 bytes are not asked).
-/
import Derived.Test.YtplilajgncfieaaRN
import Derived.Test.YtplilajgncfieaaRG
namespace Go.Proofs.Ytplilajgncfieaa
open Go.RowKit
set_option maxRecDepth 100000

/-- What is held may be made stronger on the way: 'every world that meets the stronger condition' is asked less. -/
theorem wpAnyH_more {P : Program} {md : Region.Mode} {ops : Array Oper} {Q : Exit → Act → World → Prop} {S S' : World → Prop} (hS : ∀ w, S' w → S w) :
    ∀ (fuel : Nat) (listed : Array Bool) (a : Act) (w : World), wpAnyH P md ops Q S' fuel listed a w → wpAnyH P md ops Q S fuel listed a w
  | 0, _, _, _, h => h
  | fuel + 1, _, _, _, h => ⟨h.1, fun i hi => wpOp_mono (fun a' w' h' => ⟨hS _ h'.1, wpAnyH_more hS fuel _ a' w' h'.2⟩) (h.2 i hi)⟩

/-- A law answers true, and leaves what was there. -/
def LawPost (w : World) (e : Ending) (w' : World) : Prop := e = .returned (.bool true) ∧ Below w.heap.size w w'

theorem writes_long (me : Int) (da cl su : Nat) (pa si : Int) (na : ByteArray) (of : Int) (be : Bool) (many size off : Int) (hn : 300 < na.size) (w : World) :
    Calls Try.prog 3 #[.agg #[.int .i64 me, .int .u16 da, .int .u16 cl, .int .u32 su, .int .i64 pa, .int .i64 si, .string na, .int .i64 of], .bool be, .int .i64 many, .int .i64 size, .int .i64 off] w (LawPost w) := by
  have FX := Lib.hid (fun W => fixed_yes W)
  have hd : decide ((300 : Int) < na.size) = true := by simp; omega
  go_enter Try.func3, Try.ntmps3
  go_wp2_with fail
  have HR := Lib.hid (RecAt.new w ⟨me, da, cl, su, pa, si, na, of⟩)
  have B0 := Lib.hid ((Below.refl w.heap.size w).alloc (Nat.le_refl _) (.cells (recC ⟨me, da, cl, su, pa, si, na, of⟩) 27))
  simp only [recC] at HR B0
  generalize w.alloc _ = w0 at HR B0 ⊢
  refine (FX.out w0).mono ?_
  rintro e w1 ⟨rfl, hb⟩
  obtain ⟨c0, cd, ck, c3, c4, c5, c6, c7⟩ := RecAt.cells (HR.out.bel hb)
  have B1 := Lib.hid (bel_after B0.out (Nat.le_refl _) hb)
  clear HR hb c0 cd ck c3 c4 c5 c7
  go_wp2_with fail
  go_ret
  exact ⟨rfl, B1.out⟩

set_option linter.unusedSimpArgs false in
set_option maxHeartbeats 8000000 in
theorem writes_short (me : Int) (da cl su : Nat) (pa si : Int) (na : ByteArray) (of : Int) (hr : RecIn ⟨me, da, cl, su, pa, si, na, of⟩) (be : Bool) (many size off : Int) (hn : na.size ≤ 300) (w : World) :
    Calls Try.prog 3 #[.agg #[.int .i64 me, .int .u16 da, .int .u16 cl, .int .u32 su, .int .i64 pa, .int .i64 si, .string na, .int .i64 of], .bool be, .int .i64 many, .int .i64 size, .int .i64 off] w (LawPost w) := by
  have FX := Lib.hid (fun W => fixed_yes W)
  have hd : decide ((300 : Int) < na.size) = false := by simp; omega
  have P1 := Lib.hid (fun W => local_any me da cl su pa si na of hr (by omega) be W)
  have Q1 := Lib.hid (fun W => refLocal_any me da cl su pa si na of hr (by omega) be W)
  have P2 := Lib.hid (fun W => behind_any me da cl su pa si na of hr W)
  have Q2 := Lib.hid (fun W => refBehind_any me da cl su pa si na of hr W)
  have P3 := Lib.hid (fun W => central_any me da cl su pa si na of hr (by omega) be W)
  have Q3 := Lib.hid (fun W => refCentral_any me da cl su pa si na of hr (by omega) be W)
  have P4 := Lib.hid (fun W => end_any many size off W)
  have Q4 := Lib.hid (fun W => refEnd_any many size off W)
  generalize localL ⟨me, da, cl, su, pa, si, na, of⟩ be = L1 at *
  generalize behindL ⟨me, da, cl, su, pa, si, na, of⟩ = L2 at *
  generalize centralL ⟨me, da, cl, su, pa, si, na, of⟩ be = L3 at *
  generalize endL many size off = L4 at *
  generalize 30 + na.size = N1 at *
  generalize 46 + na.size = N3 at *
  clear hr
  go_enter Try.func3, Try.ntmps3
  go_wp2_with fail
  have HR := Lib.hid (RecAt.new w ⟨me, da, cl, su, pa, si, na, of⟩)
  have B0 := Lib.hid ((Below.refl w.heap.size w).alloc (Nat.le_refl _) (.cells (recC ⟨me, da, cl, su, pa, si, na, of⟩) 27))
  simp only [recC] at HR B0
  generalize w.alloc _ = w0 at HR B0 ⊢
  obtain ⟨gb, hgb⟩ : ∃ gb, w.heap.size = gb := ⟨_, rfl⟩
  rw [hgb] at HR ⊢
  clear hgb
  refine (FX.out w0).mono ?_
  rintro e w1 ⟨rfl, hb⟩
  have R1 := Lib.hid (HR.out.bel hb)
  obtain ⟨c0, cd, ck, c3, c4, c5, c6, c7⟩ := RecAt.cells R1.out
  have B1 := Lib.hid (bel_after B0.out (Nat.le_refl _) hb)
  clear HR hb c0 cd ck c3 c4 c5 c7 FX B0
  go_upto_region 5 with fail
  clear c6 hd
  refine wp_region_held_drew (S := (fun W => Below w1.heap.size w1 W)) (by kernel_rfl) (Below.refl _ _).drew (fun hHeld => ?_)
  have hHeld0 := hHeld
  have R_0 := Lib.hid (RecAt.bel R1.out hHeld0)
  generalize hwd : w1.drew = wd at *
  clear hwd hHeld0
  refine wpAnyH_more (S' := fun V => Below wd.heap.size wd V) (fun V h => bel_after hHeld (Nat.le_refl _) h) _ _ _ _ ?_
  have B_0 := Lib.hid hHeld
  clear hHeld
  have hHeld : Below wd.heap.size wd wd := Below.refl _ _
  refine wpAnyH_take (i := 0) (oi := ⟨some 17, _, _, _, _, _⟩) (v := .agg (recC ⟨me, da, cl, su, pa, si, na, of⟩)) rfl (by kernel_rfl) (by kernel_rfl) (by kernel_rfl) (fun _ _ _ h => h) (Or.inl ⟨by rfl, ?hy0_1⟩) (by assumption) ?rest0_1
  case hy0_1 => intro W hSW; exact RecAt.load W gb _ _ _ rfl rfl (RecAt.bel R_0.out hSW)
  try simp only [Act.put, List.setIfInBounds_toArray, List.set_cons_zero, List.set_cons_succ]
  refine wpAnyH_take (i := 1) (oi := ⟨some 18, _, _, _, _, _⟩) (v := ?v1_2) rfl (by kernel_rfl) (by kernel_rfl) (by kernel_rfl) (fun _ _ _ h => h) (Or.inl ⟨by rfl, ?hy1_2⟩) (by assumption) ?rest1_2
  case hy1_2 => intro W hSW; go_simp; try rfl
  try simp only [Act.put, List.setIfInBounds_toArray, List.set_cons_zero, List.set_cons_succ]
  refine wpAnyH_take (i := 4) (oi := ⟨some 21, _, _, _, _, _⟩) (v := .agg (recC ⟨me, da, cl, su, pa, si, na, of⟩)) rfl (by kernel_rfl) (by kernel_rfl) (by kernel_rfl) (fun _ _ _ h => h) (Or.inl ⟨by rfl, ?hy4_3⟩) (by assumption) ?rest4_3
  case hy4_3 => intro W hSW; exact RecAt.load W gb _ _ _ rfl rfl (RecAt.bel R_0.out hSW)
  try simp only [Act.put, List.setIfInBounds_toArray, List.set_cons_zero, List.set_cons_succ]
  refine wpAnyH_take (i := 5) (oi := ⟨some 22, _, _, _, _, _⟩) (v := ?v5_4) rfl (by kernel_rfl) (by kernel_rfl) (by kernel_rfl) (fun _ _ _ h => h) (Or.inl ⟨by rfl, ?hy5_4⟩) (by assumption) ?rest5_4
  case hy5_4 => intro W hSW; go_simp; try rfl
  try simp only [Act.put, List.setIfInBounds_toArray, List.set_cons_zero, List.set_cons_succ]
  refine wpAnyH_ready (rs := [2]) (by kernel_rfl) (by simp) ?_
  refine (AllReadyH.cons (o := ⟨some 19, _, _, _, _, _⟩) rfl (fun K hK => ?_) AllReadyH.nil)
  · go_simp
    refine (P1.out wd).mono ?_
    rintro e y5 ⟨v5, rfl, ho, hb⟩
    obtain ⟨A5, k5, rfl, _, NW⟩ := own_seen ho
    have R_5 := Lib.hid (RecAt.bel R_0.out hb)
    have P1_5 := Lib.hid NW
    refine hK.out _ _ ?_ (fun hHeld2 => ?_)
    · exact hb
    clear hK K hHeld
    have B_5 := Lib.hid (bel_after B_0.out (Nat.le_refl _) hb)
    clear hHeld2
    try simp only [Act.put, List.setIfInBounds_toArray, List.set_cons_zero, List.set_cons_succ]
    refine wpAnyH_more (S' := fun V => Below y5.heap.size y5 V) (fun V h => bel_after hb (Nat.le_refl _) h) _ _ _ _ ?_
    have hHeld : Below y5.heap.size y5 y5 := Below.refl _ _
    clear hb
    clear ho NW
    try clear R_0
    refine wpAnyH_take (i := 3) (oi := ⟨some 20, _, _, _, _, _⟩) (v := ?v3_6) rfl (by kernel_rfl) (by kernel_rfl) (by kernel_rfl) (fun _ _ _ h => h) (Or.inl ⟨by rfl, ?hy3_6⟩) (by assumption) ?rest3_6
    case hy3_6 => intro W hSW; have cv := conv_seen (Seen.bel P1_5.out hSW); go_simp; try rfl
    try simp only [Act.put, List.setIfInBounds_toArray, List.set_cons_zero, List.set_cons_succ]
    refine wpAnyH_ready (rs := [6]) (by kernel_rfl) (by simp) ?_
    refine (AllReadyH.cons (o := ⟨some 23, _, _, _, _, _⟩) rfl (fun K hK => ?_) AllReadyH.nil)
    · go_simp
      refine (Q1.out y5).mono ?_
      rintro e y7 ⟨v7, rfl, ho, hb⟩
      obtain ⟨A7, k7, rfl, _, NW⟩ := own_seen ho
      have R_7 := Lib.hid (RecAt.bel R_5.out hb)
      have P1_7 := Lib.hid (Seen.bel P1_5.out hb)
      have Q1_7 := Lib.hid NW
      refine hK.out _ _ ?_ (fun hHeld2 => ?_)
      · exact hb
      clear hK K hHeld
      have B_7 := Lib.hid (bel_after B_5.out (Nat.le_refl _) hb)
      clear hHeld2
      try simp only [Act.put, List.setIfInBounds_toArray, List.set_cons_zero, List.set_cons_succ]
      refine wpAnyH_more (S' := fun V => Below y7.heap.size y7 V) (fun V h => bel_after hb (Nat.le_refl _) h) _ _ _ _ ?_
      have hHeld : Below y7.heap.size y7 y7 := Below.refl _ _
      clear hb
      clear ho NW
      try clear R_5
      try clear P1_5
      refine wpAnyH_take (i := 7) (oi := ⟨some 24, _, _, _, _, _⟩) (v := ?v7_8) rfl (by kernel_rfl) (by kernel_rfl) (by kernel_rfl) (fun _ _ _ h => h) (Or.inl ⟨by rfl, ?hy7_8⟩) (by assumption) ?rest7_8
      case hy7_8 => intro W hSW; have cv := conv_seen (Seen.bel Q1_7.out hSW); go_simp; try rfl
      try simp only [Act.put, List.setIfInBounds_toArray, List.set_cons_zero, List.set_cons_succ]
      refine wpAnyH_take (i := 8) (oi := ⟨some 25, _, _, _, _, _⟩) (v := ?v8_9) rfl (by kernel_rfl) (by kernel_rfl) (by kernel_rfl) (fun _ _ _ h => h) (Or.inl ⟨by rfl, ?hy8_9⟩) (by assumption) ?rest8_9
      case hy8_9 => intro W hSW; go_simp; try rfl
      try simp only [Act.put, List.setIfInBounds_toArray, List.set_cons_zero, List.set_cons_succ]
      refine wpAnyH_take (i := 9) (oi := ⟨some 26, _, _, _, _, _⟩) (v := ?v9_10) rfl (by kernel_rfl) (by kernel_rfl) (by kernel_rfl) (fun _ _ _ h => h) (Or.inl ⟨by rfl, ?hy9_10⟩) (by assumption) ?rest9_10
      case hy9_10 => intro W hSW; go_simp; try rfl
      try simp only [Act.put, List.setIfInBounds_toArray, List.set_cons_zero, List.set_cons_succ]
      refine wpAnyH_take (i := 10) (oi := ⟨some 27, _, _, _, _, _⟩) (v := .agg (recC ⟨me, da, cl, su, pa, si, na, of⟩)) rfl (by kernel_rfl) (by kernel_rfl) (by kernel_rfl) (fun _ _ _ h => h) (Or.inl ⟨by rfl, ?hy10_11⟩) (by assumption) ?rest10_11
      case hy10_11 => intro W hSW; exact RecAt.load W gb _ _ _ rfl rfl (RecAt.bel R_7.out hSW)
      try simp only [Act.put, List.setIfInBounds_toArray, List.set_cons_zero, List.set_cons_succ]
      refine wpAnyH_take (i := 13) (oi := ⟨some 30, _, _, _, _, _⟩) (v := .agg (recC ⟨me, da, cl, su, pa, si, na, of⟩)) rfl (by kernel_rfl) (by kernel_rfl) (by kernel_rfl) (fun _ _ _ h => h) (Or.inl ⟨by rfl, ?hy13_12⟩) (by assumption) ?rest13_12
      case hy13_12 => intro W hSW; exact RecAt.load W gb _ _ _ rfl rfl (RecAt.bel R_7.out hSW)
      try simp only [Act.put, List.setIfInBounds_toArray, List.set_cons_zero, List.set_cons_succ]
      refine wpAnyH_ready (rs := [11]) (by kernel_rfl) (by simp) ?_
      refine (AllReadyH.cons (o := ⟨some 28, _, _, _, _, _⟩) rfl (fun K hK => ?_) AllReadyH.nil)
      · go_simp
        refine (P2.out y7).mono ?_
        rintro e y13 ⟨v13, rfl, ho, hb⟩
        obtain ⟨A13, k13, rfl, _, NW⟩ := own_seen ho
        have R_13 := Lib.hid (RecAt.bel R_7.out hb)
        have P1_13 := Lib.hid (Seen.bel P1_7.out hb)
        have Q1_13 := Lib.hid (Seen.bel Q1_7.out hb)
        have P2_13 := Lib.hid NW
        refine hK.out _ _ ?_ (fun hHeld2 => ?_)
        · exact hb
        clear hK K hHeld
        have B_13 := Lib.hid (bel_after B_7.out (Nat.le_refl _) hb)
        clear hHeld2
        try simp only [Act.put, List.setIfInBounds_toArray, List.set_cons_zero, List.set_cons_succ]
        refine wpAnyH_more (S' := fun V => Below y13.heap.size y13 V) (fun V h => bel_after hb (Nat.le_refl _) h) _ _ _ _ ?_
        have hHeld : Below y13.heap.size y13 y13 := Below.refl _ _
        clear hb
        clear ho NW
        try clear R_7
        try clear P1_7
        try clear Q1_7
        refine wpAnyH_take (i := 12) (oi := ⟨some 29, _, _, _, _, _⟩) (v := ?v12_14) rfl (by kernel_rfl) (by kernel_rfl) (by kernel_rfl) (fun _ _ _ h => h) (Or.inl ⟨by rfl, ?hy12_14⟩) (by assumption) ?rest12_14
        case hy12_14 => intro W hSW; have cv := conv_seen (Seen.bel P2_13.out hSW); go_simp; try rfl
        try simp only [Act.put, List.setIfInBounds_toArray, List.set_cons_zero, List.set_cons_succ]
        refine wpAnyH_ready (rs := [14]) (by kernel_rfl) (by simp) ?_
        refine (AllReadyH.cons (o := ⟨some 31, _, _, _, _, _⟩) rfl (fun K hK => ?_) AllReadyH.nil)
        · go_simp
          refine (Q2.out y13).mono ?_
          rintro e y15 ⟨v15, rfl, ho, hb⟩
          obtain ⟨A15, k15, rfl, _, NW⟩ := own_seen ho
          have R_15 := Lib.hid (RecAt.bel R_13.out hb)
          have P1_15 := Lib.hid (Seen.bel P1_13.out hb)
          have Q1_15 := Lib.hid (Seen.bel Q1_13.out hb)
          have P2_15 := Lib.hid (Seen.bel P2_13.out hb)
          have Q2_15 := Lib.hid NW
          refine hK.out _ _ ?_ (fun hHeld2 => ?_)
          · exact hb
          clear hK K hHeld
          have B_15 := Lib.hid (bel_after B_13.out (Nat.le_refl _) hb)
          clear hHeld2
          try simp only [Act.put, List.setIfInBounds_toArray, List.set_cons_zero, List.set_cons_succ]
          refine wpAnyH_more (S' := fun V => Below y15.heap.size y15 V) (fun V h => bel_after hb (Nat.le_refl _) h) _ _ _ _ ?_
          have hHeld : Below y15.heap.size y15 y15 := Below.refl _ _
          clear hb
          clear ho NW
          try clear R_13
          try clear P1_13
          try clear Q1_13
          try clear P2_13
          refine wpAnyH_take (i := 15) (oi := ⟨some 32, _, _, _, _, _⟩) (v := ?v15_16) rfl (by kernel_rfl) (by kernel_rfl) (by kernel_rfl) (fun _ _ _ h => h) (Or.inl ⟨by rfl, ?hy15_16⟩) (by assumption) ?rest15_16
          case hy15_16 => intro W hSW; have cv := conv_seen (Seen.bel Q2_15.out hSW); go_simp; try rfl
          try simp only [Act.put, List.setIfInBounds_toArray, List.set_cons_zero, List.set_cons_succ]
          refine wpAnyH_take (i := 16) (oi := ⟨some 33, _, _, _, _, _⟩) (v := ?v16_17) rfl (by kernel_rfl) (by kernel_rfl) (by kernel_rfl) (fun _ _ _ h => h) (Or.inl ⟨by rfl, ?hy16_17⟩) (by assumption) ?rest16_17
          case hy16_17 => intro W hSW; go_simp; try rfl
          try simp only [Act.put, List.setIfInBounds_toArray, List.set_cons_zero, List.set_cons_succ]
          refine wpAnyH_take (i := 17) (oi := ⟨some 34, _, _, _, _, _⟩) (v := ?v17_18) rfl (by kernel_rfl) (by kernel_rfl) (by kernel_rfl) (fun _ _ _ h => h) (Or.inl ⟨by rfl, ?hy17_18⟩) (by assumption) ?rest17_18
          case hy17_18 => intro W hSW; go_simp; try rfl
          try simp only [Act.put, List.setIfInBounds_toArray, List.set_cons_zero, List.set_cons_succ]
          refine wpAnyH_take (i := 18) (oi := ⟨some 35, _, _, _, _, _⟩) (v := ?v18_19) rfl (by kernel_rfl) (by kernel_rfl) (by kernel_rfl) (fun _ _ _ h => h) (Or.inl ⟨by rfl, ?hy18_19⟩) (by assumption) ?rest18_19
          case hy18_19 => intro W hSW; go_simp; try rfl
          try simp only [Act.put, List.setIfInBounds_toArray, List.set_cons_zero, List.set_cons_succ]
          refine wpAnyH_take (i := 19) (oi := ⟨some 36, _, _, _, _, _⟩) (v := .agg (recC ⟨me, da, cl, su, pa, si, na, of⟩)) rfl (by kernel_rfl) (by kernel_rfl) (by kernel_rfl) (fun _ _ _ h => h) (Or.inl ⟨by rfl, ?hy19_20⟩) (by assumption) ?rest19_20
          case hy19_20 => intro W hSW; exact RecAt.load W gb _ _ _ rfl rfl (RecAt.bel R_15.out hSW)
          try simp only [Act.put, List.setIfInBounds_toArray, List.set_cons_zero, List.set_cons_succ]
          refine wpAnyH_take (i := 20) (oi := ⟨some 37, _, _, _, _, _⟩) (v := ?v20_21) rfl (by kernel_rfl) (by kernel_rfl) (by kernel_rfl) (fun _ _ _ h => h) (Or.inl ⟨by rfl, ?hy20_21⟩) (by assumption) ?rest20_21
          case hy20_21 => intro W hSW; go_simp; try rfl
          try simp only [Act.put, List.setIfInBounds_toArray, List.set_cons_zero, List.set_cons_succ]
          refine wpAnyH_take (i := 23) (oi := ⟨some 40, _, _, _, _, _⟩) (v := .agg (recC ⟨me, da, cl, su, pa, si, na, of⟩)) rfl (by kernel_rfl) (by kernel_rfl) (by kernel_rfl) (fun _ _ _ h => h) (Or.inl ⟨by rfl, ?hy23_22⟩) (by assumption) ?rest23_22
          case hy23_22 => intro W hSW; exact RecAt.load W gb _ _ _ rfl rfl (RecAt.bel R_15.out hSW)
          try simp only [Act.put, List.setIfInBounds_toArray, List.set_cons_zero, List.set_cons_succ]
          refine wpAnyH_take (i := 24) (oi := ⟨some 41, _, _, _, _, _⟩) (v := ?v24_23) rfl (by kernel_rfl) (by kernel_rfl) (by kernel_rfl) (fun _ _ _ h => h) (Or.inl ⟨by rfl, ?hy24_23⟩) (by assumption) ?rest24_23
          case hy24_23 => intro W hSW; go_simp; try rfl
          try simp only [Act.put, List.setIfInBounds_toArray, List.set_cons_zero, List.set_cons_succ]
          refine wpAnyH_ready (rs := [21]) (by kernel_rfl) (by simp) ?_
          refine (AllReadyH.cons (o := ⟨some 38, _, _, _, _, _⟩) rfl (fun K hK => ?_) AllReadyH.nil)
          · go_simp
            refine (P3.out y15).mono ?_
            rintro e y24 ⟨v24, rfl, ho, hb⟩
            obtain ⟨A24, k24, rfl, _, NW⟩ := own_seen ho
            have R_24 := Lib.hid (RecAt.bel R_15.out hb)
            have P1_24 := Lib.hid (Seen.bel P1_15.out hb)
            have Q1_24 := Lib.hid (Seen.bel Q1_15.out hb)
            have P2_24 := Lib.hid (Seen.bel P2_15.out hb)
            have Q2_24 := Lib.hid (Seen.bel Q2_15.out hb)
            have P3_24 := Lib.hid NW
            refine hK.out _ _ ?_ (fun hHeld2 => ?_)
            · exact hb
            clear hK K hHeld
            have B_24 := Lib.hid (bel_after B_15.out (Nat.le_refl _) hb)
            clear hHeld2
            try simp only [Act.put, List.setIfInBounds_toArray, List.set_cons_zero, List.set_cons_succ]
            refine wpAnyH_more (S' := fun V => Below y24.heap.size y24 V) (fun V h => bel_after hb (Nat.le_refl _) h) _ _ _ _ ?_
            have hHeld : Below y24.heap.size y24 y24 := Below.refl _ _
            clear hb
            clear ho NW
            try clear R_15
            try clear P1_15
            try clear Q1_15
            try clear P2_15
            try clear Q2_15
            refine wpAnyH_take (i := 22) (oi := ⟨some 39, _, _, _, _, _⟩) (v := ?v22_25) rfl (by kernel_rfl) (by kernel_rfl) (by kernel_rfl) (fun _ _ _ h => h) (Or.inl ⟨by rfl, ?hy22_25⟩) (by assumption) ?rest22_25
            case hy22_25 => intro W hSW; have cv := conv_seen (Seen.bel P3_24.out hSW); go_simp; try rfl
            try simp only [Act.put, List.setIfInBounds_toArray, List.set_cons_zero, List.set_cons_succ]
            refine wpAnyH_ready (rs := [25]) (by kernel_rfl) (by simp) ?_
            refine (AllReadyH.cons (o := ⟨some 42, _, _, _, _, _⟩) rfl (fun K hK => ?_) AllReadyH.nil)
            · go_simp
              refine (Q3.out y24).mono ?_
              rintro e y26 ⟨v26, rfl, ho, hb⟩
              obtain ⟨A26, k26, rfl, _, NW⟩ := own_seen ho
              have R_26 := Lib.hid (RecAt.bel R_24.out hb)
              have P1_26 := Lib.hid (Seen.bel P1_24.out hb)
              have Q1_26 := Lib.hid (Seen.bel Q1_24.out hb)
              have P2_26 := Lib.hid (Seen.bel P2_24.out hb)
              have Q2_26 := Lib.hid (Seen.bel Q2_24.out hb)
              have P3_26 := Lib.hid (Seen.bel P3_24.out hb)
              have Q3_26 := Lib.hid NW
              refine hK.out _ _ ?_ (fun hHeld2 => ?_)
              · exact hb
              clear hK K hHeld
              have B_26 := Lib.hid (bel_after B_24.out (Nat.le_refl _) hb)
              clear hHeld2
              try simp only [Act.put, List.setIfInBounds_toArray, List.set_cons_zero, List.set_cons_succ]
              refine wpAnyH_more (S' := fun V => Below y26.heap.size y26 V) (fun V h => bel_after hb (Nat.le_refl _) h) _ _ _ _ ?_
              have hHeld : Below y26.heap.size y26 y26 := Below.refl _ _
              clear hb
              clear ho NW
              try clear R_24
              try clear P1_24
              try clear Q1_24
              try clear P2_24
              try clear Q2_24
              try clear P3_24
              refine wpAnyH_take (i := 26) (oi := ⟨some 43, _, _, _, _, _⟩) (v := ?v26_27) rfl (by kernel_rfl) (by kernel_rfl) (by kernel_rfl) (fun _ _ _ h => h) (Or.inl ⟨by rfl, ?hy26_27⟩) (by assumption) ?rest26_27
              case hy26_27 => intro W hSW; have cv := conv_seen (Seen.bel Q3_26.out hSW); go_simp; try rfl
              try simp only [Act.put, List.setIfInBounds_toArray, List.set_cons_zero, List.set_cons_succ]
              refine wpAnyH_take (i := 27) (oi := ⟨some 44, _, _, _, _, _⟩) (v := ?v27_28) rfl (by kernel_rfl) (by kernel_rfl) (by kernel_rfl) (fun _ _ _ h => h) (Or.inl ⟨by rfl, ?hy27_28⟩) (by assumption) ?rest27_28
              case hy27_28 => intro W hSW; go_simp; try rfl
              try simp only [Act.put, List.setIfInBounds_toArray, List.set_cons_zero, List.set_cons_succ]
              refine wpAnyH_take (i := 28) (oi := ⟨some 45, _, _, _, _, _⟩) (v := ?v28_29) rfl (by kernel_rfl) (by kernel_rfl) (by kernel_rfl) (fun _ _ _ h => h) (Or.inl ⟨by rfl, ?hy28_29⟩) (by assumption) ?rest28_29
              case hy28_29 => intro W hSW; go_simp; try rfl
              try simp only [Act.put, List.setIfInBounds_toArray, List.set_cons_zero, List.set_cons_succ]
              refine wpAnyH_take (i := 29) (oi := ⟨some 46, _, _, _, _, _⟩) (v := ?v29_30) rfl (by kernel_rfl) (by kernel_rfl) (by kernel_rfl) (fun _ _ _ h => h) (Or.inl ⟨by rfl, ?hy29_30⟩) (by assumption) ?rest29_30
              case hy29_30 => intro W hSW; go_simp; try rfl
              try simp only [Act.put, List.setIfInBounds_toArray, List.set_cons_zero, List.set_cons_succ]
              refine wpAnyH_take (i := 30) (oi := ⟨some 47, _, _, _, _, _⟩) (v := ?v30_31) rfl (by kernel_rfl) (by kernel_rfl) (by kernel_rfl) (fun _ _ _ h => h) (Or.inl ⟨by rfl, ?hy30_31⟩) (by assumption) ?rest30_31
              case hy30_31 => intro W hSW; go_simp; try rfl
              try simp only [Act.put, List.setIfInBounds_toArray, List.set_cons_zero, List.set_cons_succ]
              refine wpAnyH_take (i := 31) (oi := ⟨some 48, _, _, _, _, _⟩) (v := ?v31_32) rfl (by kernel_rfl) (by kernel_rfl) (by kernel_rfl) (fun _ _ _ h => h) (Or.inl ⟨by rfl, ?hy31_32⟩) (by assumption) ?rest31_32
              case hy31_32 => intro W hSW; go_simp; try rfl
              try simp only [Act.put, List.setIfInBounds_toArray, List.set_cons_zero, List.set_cons_succ]
              refine wpAnyH_take (i := 32) (oi := ⟨some 49, _, _, _, _, _⟩) (v := ?v32_33) rfl (by kernel_rfl) (by kernel_rfl) (by kernel_rfl) (fun _ _ _ h => h) (Or.inl ⟨by rfl, ?hy32_33⟩) (by assumption) ?rest32_33
              case hy32_33 => intro W hSW; go_simp; try rfl
              try simp only [Act.put, List.setIfInBounds_toArray, List.set_cons_zero, List.set_cons_succ]
              refine wpAnyH_take (i := 35) (oi := ⟨some 52, _, _, _, _, _⟩) (v := ?v35_34) rfl (by kernel_rfl) (by kernel_rfl) (by kernel_rfl) (fun _ _ _ h => h) (Or.inl ⟨by rfl, ?hy35_34⟩) (by assumption) ?rest35_34
              case hy35_34 => intro W hSW; go_simp; try rfl
              try simp only [Act.put, List.setIfInBounds_toArray, List.set_cons_zero, List.set_cons_succ]
              refine wpAnyH_take (i := 36) (oi := ⟨some 53, _, _, _, _, _⟩) (v := ?v36_35) rfl (by kernel_rfl) (by kernel_rfl) (by kernel_rfl) (fun _ _ _ h => h) (Or.inl ⟨by rfl, ?hy36_35⟩) (by assumption) ?rest36_35
              case hy36_35 => intro W hSW; go_simp; try rfl
              try simp only [Act.put, List.setIfInBounds_toArray, List.set_cons_zero, List.set_cons_succ]
              refine wpAnyH_take (i := 37) (oi := ⟨some 54, _, _, _, _, _⟩) (v := ?v37_36) rfl (by kernel_rfl) (by kernel_rfl) (by kernel_rfl) (fun _ _ _ h => h) (Or.inl ⟨by rfl, ?hy37_36⟩) (by assumption) ?rest37_36
              case hy37_36 => intro W hSW; go_simp; try rfl
              try simp only [Act.put, List.setIfInBounds_toArray, List.set_cons_zero, List.set_cons_succ]
              refine wpAnyH_ready (rs := [33]) (by kernel_rfl) (by simp) ?_
              refine (AllReadyH.cons (o := ⟨some 50, _, _, _, _, _⟩) rfl (fun K hK => ?_) AllReadyH.nil)
              · go_simp
                refine (P4.out y26).mono ?_
                rintro e y37 ⟨v37, rfl, ho, hb⟩
                obtain ⟨A37, k37, rfl, _, NW⟩ := own_seen ho
                have R_37 := Lib.hid (RecAt.bel R_26.out hb)
                have P1_37 := Lib.hid (Seen.bel P1_26.out hb)
                have Q1_37 := Lib.hid (Seen.bel Q1_26.out hb)
                have P2_37 := Lib.hid (Seen.bel P2_26.out hb)
                have Q2_37 := Lib.hid (Seen.bel Q2_26.out hb)
                have P3_37 := Lib.hid (Seen.bel P3_26.out hb)
                have Q3_37 := Lib.hid (Seen.bel Q3_26.out hb)
                have P4_37 := Lib.hid NW
                refine hK.out _ _ ?_ (fun hHeld2 => ?_)
                · exact hb
                clear hK K hHeld
                have B_37 := Lib.hid (bel_after B_26.out (Nat.le_refl _) hb)
                clear hHeld2
                try simp only [Act.put, List.setIfInBounds_toArray, List.set_cons_zero, List.set_cons_succ]
                refine wpAnyH_more (S' := fun V => Below y37.heap.size y37 V) (fun V h => bel_after hb (Nat.le_refl _) h) _ _ _ _ ?_
                have hHeld : Below y37.heap.size y37 y37 := Below.refl _ _
                clear hb
                clear ho NW
                try clear R_26
                try clear P1_26
                try clear Q1_26
                try clear P2_26
                try clear Q2_26
                try clear P3_26
                try clear Q3_26
                refine wpAnyH_take (i := 34) (oi := ⟨some 51, _, _, _, _, _⟩) (v := ?v34_38) rfl (by kernel_rfl) (by kernel_rfl) (by kernel_rfl) (fun _ _ _ h => h) (Or.inl ⟨by rfl, ?hy34_38⟩) (by assumption) ?rest34_38
                case hy34_38 => intro W hSW; have cv := conv_seen (Seen.bel P4_37.out hSW); go_simp; try rfl
                try simp only [Act.put, List.setIfInBounds_toArray, List.set_cons_zero, List.set_cons_succ]
                refine wpAnyH_ready (rs := [38]) (by kernel_rfl) (by simp) ?_
                refine (AllReadyH.cons (o := ⟨some 55, _, _, _, _, _⟩) rfl (fun K hK => ?_) AllReadyH.nil)
                · go_simp
                  refine (Q4.out y37).mono ?_
                  rintro e y39 ⟨v39, rfl, ho, hb⟩
                  obtain ⟨A39, k39, rfl, _, NW⟩ := own_seen ho
                  have R_39 := Lib.hid (RecAt.bel R_37.out hb)
                  have P1_39 := Lib.hid (Seen.bel P1_37.out hb)
                  have Q1_39 := Lib.hid (Seen.bel Q1_37.out hb)
                  have P2_39 := Lib.hid (Seen.bel P2_37.out hb)
                  have Q2_39 := Lib.hid (Seen.bel Q2_37.out hb)
                  have P3_39 := Lib.hid (Seen.bel P3_37.out hb)
                  have Q3_39 := Lib.hid (Seen.bel Q3_37.out hb)
                  have P4_39 := Lib.hid (Seen.bel P4_37.out hb)
                  have Q4_39 := Lib.hid NW
                  refine hK.out _ _ ?_ (fun hHeld2 => ?_)
                  · exact hb
                  clear hK K hHeld
                  have B_39 := Lib.hid (bel_after B_37.out (Nat.le_refl _) hb)
                  clear hHeld2
                  try simp only [Act.put, List.setIfInBounds_toArray, List.set_cons_zero, List.set_cons_succ]
                  refine wpAnyH_more (S' := fun V => Below y39.heap.size y39 V) (fun V h => bel_after hb (Nat.le_refl _) h) _ _ _ _ ?_
                  have hHeld : Below y39.heap.size y39 y39 := Below.refl _ _
                  clear hb
                  clear ho NW
                  try clear R_37
                  try clear P1_37
                  try clear Q1_37
                  try clear P2_37
                  try clear Q2_37
                  try clear P3_37
                  try clear Q3_37
                  try clear P4_37
                  refine wpAnyH_take (i := 39) (oi := ⟨some 56, _, _, _, _, _⟩) (v := ?v39_40) rfl (by kernel_rfl) (by kernel_rfl) (by kernel_rfl) (fun _ _ _ h => h) (Or.inl ⟨by rfl, ?hy39_40⟩) (by assumption) ?rest39_40
                  case hy39_40 => intro W hSW; have cv := conv_seen (Seen.bel Q4_39.out hSW); go_simp; try rfl
                  try simp only [Act.put, List.setIfInBounds_toArray, List.set_cons_zero, List.set_cons_succ]
                  refine wpAnyH_take (i := 40) (oi := ⟨some 57, _, _, _, _, _⟩) (v := ?v40_41) rfl (by kernel_rfl) (by kernel_rfl) (by kernel_rfl) (fun _ _ _ h => h) (Or.inl ⟨by rfl, ?hy40_41⟩) (by assumption) ?rest40_41
                  case hy40_41 => intro W hSW; go_simp; try rfl
                  try simp only [Act.put, List.setIfInBounds_toArray, List.set_cons_zero, List.set_cons_succ]
                  refine wpAnyH_take (i := 41) (oi := ⟨some 58, _, _, _, _, _⟩) (v := ?v41_42) rfl (by kernel_rfl) (by kernel_rfl) (by kernel_rfl) (fun _ _ _ h => h) (Or.inl ⟨by rfl, ?hy41_42⟩) (by assumption) ?rest41_42
                  case hy41_42 => intro W hSW; go_simp; try rfl
                  try simp only [Act.put, List.setIfInBounds_toArray, List.set_cons_zero, List.set_cons_succ]
                  refine wpAnyH_take (i := 42) (oi := ⟨some 10, _, _, _, _, _⟩) (v := ?v42_43) rfl (by kernel_rfl) (by kernel_rfl) (by kernel_rfl) (fun _ _ _ h => h) (Or.inl ⟨by rfl, ?hy42_43⟩) (by assumption) ?rest42_43
                  case hy42_43 => intro W hSW; go_simp; try rfl
                  try simp only [Act.put, List.setIfInBounds_toArray, List.set_cons_zero, List.set_cons_succ]
                  refine wpAnyH_done (by kernel_rfl) ?_ _
                  go_wp2_with fail
                  go_ret
                  exact ⟨rfl, B1.out.trans (B_39.out.mono B1.out.size)⟩

theorem writes_law (r : Rec) (hr : RecIn r) (be : Bool) (many size off : Int) (w : World) :
    Calls Try.prog 3 #[.agg #[.int .i64 r.me, .int .u16 r.da, .int .u16 r.cl, .int .u32 r.su, .int .i64 r.pa, .int .i64 r.si, .string r.na, .int .i64 r.of], .bool be, .int .i64 many, .int .i64 size, .int .i64 off] w (LawPost w) := by
  by_cases h : r.na.size ≤ 300
  · exact writes_short r.me r.da r.cl r.su r.pa r.si r.na r.of hr be many size off h w
  · exact writes_long r.me r.da r.cl r.su r.pa r.si r.na r.of be many size off (by omega) w
end Go.Proofs.Ytplilajgncfieaa
