/-
  The bytes of a local record: Local. Conditions: a name of at most a thousand bytes.
-/
import Derived.Test.YtplilajgncfieaaRC
namespace Go.Proofs.Ytplilajgncfieaa
open Go.RowKit
set_option maxRecDepth 100000

/-- What a local record says. -/
def told (r : Rec) (b : Bool) : Rec := if b then { r with su := 0, pa := 0, si := 0 } else r
/-- A local record's bytes. -/
def localL (r : Rec) (b : Bool) : List Nat := putL [67324752] 4 ++ putL [20] 2 ++ sharedL (told r b) b ++ strL r.na

set_option linter.unusedSimpArgs false in
set_option maxHeartbeats 4000000 in
theorem local_any (me : Int) (da cl su : Nat) (pa si : Int) (na : ByteArray) (of : Int) (hr : RecIn ⟨me, da, cl, su, pa, si, na, of⟩) (hna : na.size ≤ 1000) (be : Bool) (w : World) :
    Calls Try.prog 7 #[.agg #[.int .i64 me, .int .u16 da, .int .u16 cl, .int .u32 su, .int .i64 pa, .int .i64 si, .string na, .int .i64 of], .bool be] w (GivesRow w 5 1 (30 + na.size) (bv (localL ⟨me, da, cl, su, pa, si, na, of⟩ be))) := by
  obtain ⟨L1, hL1⟩ : ∃ l, putL [67324752] 4 = l := ⟨_, rfl⟩
  have hn1 : L1.length = 4 := by rw [← hL1]; rfl
  obtain ⟨L2, hL2⟩ : ∃ l, L1 ++ putL [20] 2 = l := ⟨_, rfl⟩
  have hn2 : L2.length = 6 := by rw [← hL2, List.length_append, hn1]; rfl
  have P1 := Lib.hid (fun W gn hN => put0 4 4 (.inr (.inr (.inl rfl))) rfl [67324752] 1 rfl (by omega) (by omega) L1 hL1 4 hn1 W gn hN)
  have P2 := Lib.hid (fun W g gn hg hN => put1 2 2 (.inr (.inl rfl)) rfl [20] 1 rfl (by omega) (by omega) L1 4 hn1 (by omega) L2 hL2 6 hn2 W g gn hg hN)
  have HX : Hid (localL ⟨me, da, cl, su, pa, si, na, of⟩ be = L2 ++ sharedL (told ⟨me, da, cl, su, pa, si, na, of⟩ be) be ++ strL na) := Lib.hid (by rw [← hL2, ← hL1]; rfl)
  have HN2 := Lib.hid hn2
  have HRI := Lib.hid hr
  clear hL1 hL2 hn1 hn2 hr
  rw [HX.out]
  clear HX
  go_enter Try.func7, Try.ntmps7
  go_upto_region 1 with fail
  have HR := Lib.hid (RecAt.new w ⟨me, da, cl, su, pa, si, na, of⟩)
  have B0 := Lib.hid ((Below.refl w.heap.size w).alloc (Nat.le_refl _) (.cells (recC ⟨me, da, cl, su, pa, si, na, of⟩) 27))
  simp only [recC] at HR B0
  generalize w.alloc _ = w0 at HR B0 ⊢
  obtain ⟨gb, hgb⟩ : ∃ gb, w.heap.size = gb := ⟨_, rfl⟩
  rw [hgb] at HR ⊢
  clear hgb
  go_cut [5, 6] (fun s5 s6 wx => ∃ (g6 gt : Nat), s5 = .slice (some ⟨g6, 0, none⟩) 6 6 ∧ s6 = .pointer (some ⟨gt, 0, none⟩) ∧ Hid (Whole wx g6 5 (bv L2).toArray ∧ RecAt wx gt ⟨me, da, cl, su, pa, si, na, of⟩ ∧ RecAt wx gb ⟨me, da, cl, su, pa, si, na, of⟩ ∧ Below w.heap.size w wx ∧ gb ≠ gt ∧ w.heap.size ≤ gt))
  case first =>
    refine wp_region_held_drew (S := (fun W => Below w0.heap.size w0 W)) (by kernel_rfl) (Below.refl _ _).drew (fun hHeld => ?_)
    have hHeld0 := hHeld
    generalize hwd : w0.drew = wd at *
    clear hwd hHeld0
    refine wpAnyH_take (i := 4) (oi := ⟨some 11, _, _, _, _, _⟩) (v := .agg (recC ⟨me, da, cl, su, pa, si, na, of⟩)) rfl (by kernel_rfl) (by kernel_rfl) (by kernel_rfl) (fun _ _ _ h => h) (Or.inl ⟨by rfl, ?hy4_1⟩) (by assumption) ?rest4_1
    case hy4_1 => intro W hSW; exact RecAt.load W gb _ _ _ rfl rfl (HR.out.bel hSW)
    try simp only [Act.put, List.setIfInBounds_toArray, List.set_cons_zero, List.set_cons_succ]
    refine wpAnyH_ready (rs := [0, 2, 5]) (by kernel_rfl) (by simp) ?_
    refine (AllReadyH.cons (o := ⟨some 7, _, _, _, _, _⟩) rfl (fun K hK => ?_) (AllReadyH.cons (o := ⟨some 9, _, _, _, _, _⟩) rfl (fun K hK => ?_) (AllReadyH.cons (o := ⟨some 6, _, _, _, _, _⟩) rfl (fun K hK => ?_) AllReadyH.nil)))
    · go_simp
      have NW : Whole (wd.alloc (.cells #[Value.int IntKind.i64 67324752] 3)) wd.heap.size 3 (iv [67324752]).toArray := Whole.new wd 3 _
      have hb : Below wd.heap.size wd (wd.alloc (.cells #[Value.int IntKind.i64 67324752] 3)) := (Below.refl _ _).alloc (Nat.le_refl _) _
      generalize wd.alloc _ = x2 at *
      obtain ⟨gN1_2, hgN1_2⟩ : ∃ g, wd.heap.size = g := ⟨_, rfl⟩
      rw [hgN1_2] at NW hb ⊢
      rw [← hgN1_2] at hb
      have N1_2 := Lib.hid NW
      refine hK.out _ _ ?_ (fun hHeld2 => ?_)
      · exact bel_after hHeld (Nat.le_refl _) hb
      clear hK K hHeld
      have hHeld := hHeld2; clear hHeld2
      try simp only [Act.put, List.setIfInBounds_toArray, List.set_cons_zero, List.set_cons_succ]
      clear hb
      clear NW
      refine wpAnyH_ready (rs := [1, 2, 5]) (by kernel_rfl) (by simp) ?_
      refine (AllReadyH.cons (o := ⟨some 8, _, _, _, _, _⟩) rfl (fun K hK => ?_) (AllReadyH.cons (o := ⟨some 9, _, _, _, _, _⟩) rfl (fun K hK => ?_) (AllReadyH.cons (o := ⟨some 6, _, _, _, _, _⟩) rfl (fun K hK => ?_) AllReadyH.nil)))
      · go_simp
        refine (P1.out x2 _ N1_2.out).mono ?_
        rintro e x3 ⟨gL1_3, rfl, NW, hge, hb⟩
        have N1_3 := Lib.hid (Whole.bel N1_2.out hb)
        have L1_3 := Lib.hid NW
        refine hK.out _ _ ?_ (fun hHeld2 => ?_)
        · exact bel_after hHeld (Nat.le_refl _) hb
        clear hK K hHeld
        have hHeld := hHeld2; clear hHeld2
        try simp only [Act.put, List.setIfInBounds_toArray, List.set_cons_zero, List.set_cons_succ]
        clear hb
        clear NW hge
        try clear N1_2
        refine wpAnyH_ready (rs := [2, 5]) (by kernel_rfl) (by simp) ?_
        refine (AllReadyH.cons (o := ⟨some 9, _, _, _, _, _⟩) rfl (fun K hK => ?_) (AllReadyH.cons (o := ⟨some 6, _, _, _, _, _⟩) rfl (fun K hK => ?_) AllReadyH.nil))
        · go_simp
          have NW : Whole (x3.alloc (.cells #[Value.int IntKind.i64 20] 3)) x3.heap.size 3 (iv [20]).toArray := Whole.new x3 3 _
          have hb : Below x3.heap.size x3 (x3.alloc (.cells #[Value.int IntKind.i64 20] 3)) := (Below.refl _ _).alloc (Nat.le_refl _) _
          generalize x3.alloc _ = x4 at *
          obtain ⟨gN2_4, hgN2_4⟩ : ∃ g, x3.heap.size = g := ⟨_, rfl⟩
          rw [hgN2_4] at NW hb ⊢
          rw [← hgN2_4] at hb
          have N1_4 := Lib.hid (Whole.bel N1_3.out hb)
          have L1_4 := Lib.hid (Whole.bel L1_3.out hb)
          have N2_4 := Lib.hid NW
          refine hK.out _ _ ?_ (fun hHeld2 => ?_)
          · exact bel_after hHeld (Nat.le_refl _) hb
          clear hK K hHeld
          have hHeld := hHeld2; clear hHeld2
          try simp only [Act.put, List.setIfInBounds_toArray, List.set_cons_zero, List.set_cons_succ]
          clear hb
          clear NW
          try clear N1_3
          try clear L1_3
          refine wpAnyH_ready (rs := [3, 5]) (by kernel_rfl) (by simp) ?_
          refine (AllReadyH.cons (o := ⟨some 10, _, _, _, _, _⟩) rfl (fun K hK => ?_) (AllReadyH.cons (o := ⟨some 6, _, _, _, _, _⟩) rfl (fun K hK => ?_) AllReadyH.nil))
          · go_simp
            refine (P2.out x4 _ _ L1_4.out N2_4.out).mono ?_
            rintro e x5 ⟨gL2_5, rfl, NW, hge, hb⟩
            have N1_5 := Lib.hid (Whole.bel N1_4.out hb)
            have L1_5 := Lib.hid (Whole.bel L1_4.out hb)
            have N2_5 := Lib.hid (Whole.bel N2_4.out hb)
            have L2_5 := Lib.hid NW
            refine hK.out _ _ ?_ (fun hHeld2 => ?_)
            · exact bel_after hHeld (Nat.le_refl _) hb
            clear hK K hHeld
            have hHeld := hHeld2; clear hHeld2
            try simp only [Act.put, List.setIfInBounds_toArray, List.set_cons_zero, List.set_cons_succ]
            clear hb
            clear NW hge
            try clear N1_4
            try clear L1_4
            try clear N2_4
            refine wpAnyH_ready (rs := [5]) (by kernel_rfl) (by simp) ?_
            refine (AllReadyH.cons (o := ⟨some 6, _, _, _, _, _⟩) rfl (fun K hK => ?_) AllReadyH.nil)
            · go_simp
              have NW := RecAt.new x5 ⟨0, 0, 0, 0, 0, 0, ⟨#[]⟩, 0⟩
              simp only [recC] at NW
              have hb := (Below.refl x5.heap.size x5).alloc (Nat.le_refl _) (.cells (recC ⟨0, 0, 0, 0, 0, 0, ⟨#[]⟩, 0⟩) 27)
              simp only [recC] at hb
              generalize x5.alloc _ = x6 at *
              obtain ⟨gt, hgt⟩ : ∃ g, x5.heap.size = g := ⟨_, rfl⟩
              rw [hgt] at NW hb ⊢
              have hgt2 : w0.heap.size ≤ gt := by rw [← hgt]; exact hHeld.size
              rw [← hgt] at hb
              have N1_6 := Lib.hid (Whole.bel N1_5.out hb)
              have L1_6 := Lib.hid (Whole.bel L1_5.out hb)
              have N2_6 := Lib.hid (Whole.bel N2_5.out hb)
              have L2_6 := Lib.hid (Whole.bel L2_5.out hb)
              have T_6 := Lib.hid NW
              refine hK.out _ _ ?_ (fun hHeld2 => ?_)
              · exact bel_after hHeld (Nat.le_refl _) hb
              clear hK K hHeld
              have hHeld := hHeld2; clear hHeld2
              try simp only [Act.put, List.setIfInBounds_toArray, List.set_cons_zero, List.set_cons_succ]
              clear hb
              clear NW hgt
              try clear N1_5
              try clear L1_5
              try clear N2_5
              try clear L2_5
              refine wpAnyH_take (i := 6) (oi := ⟨some 5, _, _, _, _, _⟩) (v := ?v6_7) rfl (by kernel_rfl) (by kernel_rfl) (by kernel_rfl) (fun _ _ _ h => h) (Or.inl ⟨by rfl, ?hy6_7⟩) (by assumption) ?rest6_7
              case hy6_7 => intro W hSW; go_simp; try rfl
              try simp only [Act.put, List.setIfInBounds_toArray, List.set_cons_zero, List.set_cons_succ]
              refine wpAnyH_ready (rs := [7]) (by kernel_rfl) (by simp) ?_
              refine (AllReadyH.cons (o := ⟨none, _, _, _, _, _⟩) rfl (fun K hK => ?_) AllReadyH.nil)
              · refine step_store_row _ rfl 27 (.tmp 6) (.tmp 11) rfl gt (recC ⟨me, da, cl, su, pa, si, na, of⟩) rfl rfl 27 (recC ⟨0, 0, 0, 0, 0, 0, ⟨#[]⟩, 0⟩) T_6.out (rec_size _) rfl (rec_one _) ?_
                have T2 : Hid (RecAt (x6.setRow gt (recC ⟨me, da, cl, su, pa, si, na, of⟩)) gt ⟨me, da, cl, su, pa, si, na, of⟩) := Lib.hid (Whole.setRow T_6.out _)
                have ne : gL2_5 ≠ gt := (L2_6.out).ne T_6.out (by decide)
                have L3 := Lib.hid (Whole.setRow_far L2_6.out (recC ⟨me, da, cl, su, pa, si, na, of⟩) ne)
                have hb2 : Below w0.heap.size w0 (x6.setRow gt (recC ⟨me, da, cl, su, pa, si, na, of⟩)) := below_setRow hHeld _ hgt2
                generalize x6.setRow gt _ = x8 at *
                refine hK.out _ _ ?_ (fun hHeld2 => ?_)
                · exact hb2
                clear hK K hHeld
                have hHeld := hHeld2; clear hHeld2
                try simp only [Act.put, List.setIfInBounds_toArray, List.set_cons_zero, List.set_cons_succ]
                try clear N1_6
                try clear L1_6
                try clear N2_6
                try clear L2_6
                try clear T_6
                refine wpAnyH_done (by kernel_rfl) ?_ _
                go_wp2_with fail
                go_meet
                case rel => exact ⟨gL2_5, gt, rfl, rfl, Lib.hid ⟨L3.out, T2.out, HR.out.bel hHeld, bel_after B0.out (Nat.le_refl _) hHeld, by have := Whole.lt HR.out; omega, Nat.le_trans B0.out.size hgt2⟩⟩
          · go_simp
            have NW := RecAt.new x4 ⟨0, 0, 0, 0, 0, 0, ⟨#[]⟩, 0⟩
            simp only [recC] at NW
            have hb := (Below.refl x4.heap.size x4).alloc (Nat.le_refl _) (.cells (recC ⟨0, 0, 0, 0, 0, 0, ⟨#[]⟩, 0⟩) 27)
            simp only [recC] at hb
            generalize x4.alloc _ = x9 at *
            obtain ⟨gt, hgt⟩ : ∃ g, x4.heap.size = g := ⟨_, rfl⟩
            rw [hgt] at NW hb ⊢
            have hgt2 : w0.heap.size ≤ gt := by rw [← hgt]; exact hHeld.size
            rw [← hgt] at hb
            have N1_9 := Lib.hid (Whole.bel N1_4.out hb)
            have L1_9 := Lib.hid (Whole.bel L1_4.out hb)
            have N2_9 := Lib.hid (Whole.bel N2_4.out hb)
            have T_9 := Lib.hid NW
            refine hK.out _ _ ?_ (fun hHeld2 => ?_)
            · exact bel_after hHeld (Nat.le_refl _) hb
            clear hK K hHeld
            have hHeld := hHeld2; clear hHeld2
            try simp only [Act.put, List.setIfInBounds_toArray, List.set_cons_zero, List.set_cons_succ]
            clear hb
            clear NW hgt
            try clear N1_4
            try clear L1_4
            try clear N2_4
            refine wpAnyH_ready (rs := [3]) (by kernel_rfl) (by simp) ?_
            refine (AllReadyH.cons (o := ⟨some 10, _, _, _, _, _⟩) rfl (fun K hK => ?_) AllReadyH.nil)
            · go_simp
              refine (P2.out x9 _ _ L1_9.out N2_9.out).mono ?_
              rintro e x10 ⟨gL2_10, rfl, NW, hge, hb⟩
              have N1_10 := Lib.hid (Whole.bel N1_9.out hb)
              have L1_10 := Lib.hid (Whole.bel L1_9.out hb)
              have N2_10 := Lib.hid (Whole.bel N2_9.out hb)
              have T_10 := Lib.hid (RecAt.bel T_9.out hb)
              have L2_10 := Lib.hid NW
              refine hK.out _ _ ?_ (fun hHeld2 => ?_)
              · exact bel_after hHeld (Nat.le_refl _) hb
              clear hK K hHeld
              have hHeld := hHeld2; clear hHeld2
              try simp only [Act.put, List.setIfInBounds_toArray, List.set_cons_zero, List.set_cons_succ]
              clear hb
              clear NW hge
              try clear N1_9
              try clear L1_9
              try clear N2_9
              try clear T_9
              refine wpAnyH_take (i := 6) (oi := ⟨some 5, _, _, _, _, _⟩) (v := ?v6_11) rfl (by kernel_rfl) (by kernel_rfl) (by kernel_rfl) (fun _ _ _ h => h) (Or.inl ⟨by rfl, ?hy6_11⟩) (by assumption) ?rest6_11
              case hy6_11 => intro W hSW; go_simp; try rfl
              try simp only [Act.put, List.setIfInBounds_toArray, List.set_cons_zero, List.set_cons_succ]
              refine wpAnyH_ready (rs := [7]) (by kernel_rfl) (by simp) ?_
              refine (AllReadyH.cons (o := ⟨none, _, _, _, _, _⟩) rfl (fun K hK => ?_) AllReadyH.nil)
              · refine step_store_row _ rfl 27 (.tmp 6) (.tmp 11) rfl gt (recC ⟨me, da, cl, su, pa, si, na, of⟩) rfl rfl 27 (recC ⟨0, 0, 0, 0, 0, 0, ⟨#[]⟩, 0⟩) T_10.out (rec_size _) rfl (rec_one _) ?_
                have T2 : Hid (RecAt (x10.setRow gt (recC ⟨me, da, cl, su, pa, si, na, of⟩)) gt ⟨me, da, cl, su, pa, si, na, of⟩) := Lib.hid (Whole.setRow T_10.out _)
                have ne : gL2_10 ≠ gt := (L2_10.out).ne T_10.out (by decide)
                have L3 := Lib.hid (Whole.setRow_far L2_10.out (recC ⟨me, da, cl, su, pa, si, na, of⟩) ne)
                have hb2 : Below w0.heap.size w0 (x10.setRow gt (recC ⟨me, da, cl, su, pa, si, na, of⟩)) := below_setRow hHeld _ hgt2
                generalize x10.setRow gt _ = x12 at *
                refine hK.out _ _ ?_ (fun hHeld2 => ?_)
                · exact hb2
                clear hK K hHeld
                have hHeld := hHeld2; clear hHeld2
                try simp only [Act.put, List.setIfInBounds_toArray, List.set_cons_zero, List.set_cons_succ]
                try clear N1_10
                try clear L1_10
                try clear N2_10
                try clear T_10
                try clear L2_10
                refine wpAnyH_done (by kernel_rfl) ?_ _
                go_wp2_with fail
                go_meet
                case rel => exact ⟨gL2_10, gt, rfl, rfl, Lib.hid ⟨L3.out, T2.out, HR.out.bel hHeld, bel_after B0.out (Nat.le_refl _) hHeld, by have := Whole.lt HR.out; omega, Nat.le_trans B0.out.size hgt2⟩⟩
        · go_simp
          have NW := RecAt.new x3 ⟨0, 0, 0, 0, 0, 0, ⟨#[]⟩, 0⟩
          simp only [recC] at NW
          have hb := (Below.refl x3.heap.size x3).alloc (Nat.le_refl _) (.cells (recC ⟨0, 0, 0, 0, 0, 0, ⟨#[]⟩, 0⟩) 27)
          simp only [recC] at hb
          generalize x3.alloc _ = x13 at *
          obtain ⟨gt, hgt⟩ : ∃ g, x3.heap.size = g := ⟨_, rfl⟩
          rw [hgt] at NW hb ⊢
          have hgt2 : w0.heap.size ≤ gt := by rw [← hgt]; exact hHeld.size
          rw [← hgt] at hb
          have N1_13 := Lib.hid (Whole.bel N1_3.out hb)
          have L1_13 := Lib.hid (Whole.bel L1_3.out hb)
          have T_13 := Lib.hid NW
          refine hK.out _ _ ?_ (fun hHeld2 => ?_)
          · exact bel_after hHeld (Nat.le_refl _) hb
          clear hK K hHeld
          have hHeld := hHeld2; clear hHeld2
          try simp only [Act.put, List.setIfInBounds_toArray, List.set_cons_zero, List.set_cons_succ]
          clear hb
          clear NW hgt
          try clear N1_3
          try clear L1_3
          refine wpAnyH_ready (rs := [2]) (by kernel_rfl) (by simp) ?_
          refine (AllReadyH.cons (o := ⟨some 9, _, _, _, _, _⟩) rfl (fun K hK => ?_) AllReadyH.nil)
          · go_simp
            have NW : Whole (x13.alloc (.cells #[Value.int IntKind.i64 20] 3)) x13.heap.size 3 (iv [20]).toArray := Whole.new x13 3 _
            have hb : Below x13.heap.size x13 (x13.alloc (.cells #[Value.int IntKind.i64 20] 3)) := (Below.refl _ _).alloc (Nat.le_refl _) _
            generalize x13.alloc _ = x14 at *
            obtain ⟨gN2_14, hgN2_14⟩ : ∃ g, x13.heap.size = g := ⟨_, rfl⟩
            rw [hgN2_14] at NW hb ⊢
            rw [← hgN2_14] at hb
            have N1_14 := Lib.hid (Whole.bel N1_13.out hb)
            have L1_14 := Lib.hid (Whole.bel L1_13.out hb)
            have T_14 := Lib.hid (RecAt.bel T_13.out hb)
            have N2_14 := Lib.hid NW
            refine hK.out _ _ ?_ (fun hHeld2 => ?_)
            · exact bel_after hHeld (Nat.le_refl _) hb
            clear hK K hHeld
            have hHeld := hHeld2; clear hHeld2
            try simp only [Act.put, List.setIfInBounds_toArray, List.set_cons_zero, List.set_cons_succ]
            clear hb
            clear NW
            try clear N1_13
            try clear L1_13
            try clear T_13
            refine wpAnyH_ready (rs := [3]) (by kernel_rfl) (by simp) ?_
            refine (AllReadyH.cons (o := ⟨some 10, _, _, _, _, _⟩) rfl (fun K hK => ?_) AllReadyH.nil)
            · go_simp
              refine (P2.out x14 _ _ L1_14.out N2_14.out).mono ?_
              rintro e x15 ⟨gL2_15, rfl, NW, hge, hb⟩
              have N1_15 := Lib.hid (Whole.bel N1_14.out hb)
              have L1_15 := Lib.hid (Whole.bel L1_14.out hb)
              have T_15 := Lib.hid (RecAt.bel T_14.out hb)
              have N2_15 := Lib.hid (Whole.bel N2_14.out hb)
              have L2_15 := Lib.hid NW
              refine hK.out _ _ ?_ (fun hHeld2 => ?_)
              · exact bel_after hHeld (Nat.le_refl _) hb
              clear hK K hHeld
              have hHeld := hHeld2; clear hHeld2
              try simp only [Act.put, List.setIfInBounds_toArray, List.set_cons_zero, List.set_cons_succ]
              clear hb
              clear NW hge
              try clear N1_14
              try clear L1_14
              try clear T_14
              try clear N2_14
              refine wpAnyH_take (i := 6) (oi := ⟨some 5, _, _, _, _, _⟩) (v := ?v6_16) rfl (by kernel_rfl) (by kernel_rfl) (by kernel_rfl) (fun _ _ _ h => h) (Or.inl ⟨by rfl, ?hy6_16⟩) (by assumption) ?rest6_16
              case hy6_16 => intro W hSW; go_simp; try rfl
              try simp only [Act.put, List.setIfInBounds_toArray, List.set_cons_zero, List.set_cons_succ]
              refine wpAnyH_ready (rs := [7]) (by kernel_rfl) (by simp) ?_
              refine (AllReadyH.cons (o := ⟨none, _, _, _, _, _⟩) rfl (fun K hK => ?_) AllReadyH.nil)
              · refine step_store_row _ rfl 27 (.tmp 6) (.tmp 11) rfl gt (recC ⟨me, da, cl, su, pa, si, na, of⟩) rfl rfl 27 (recC ⟨0, 0, 0, 0, 0, 0, ⟨#[]⟩, 0⟩) T_15.out (rec_size _) rfl (rec_one _) ?_
                have T2 : Hid (RecAt (x15.setRow gt (recC ⟨me, da, cl, su, pa, si, na, of⟩)) gt ⟨me, da, cl, su, pa, si, na, of⟩) := Lib.hid (Whole.setRow T_15.out _)
                have ne : gL2_15 ≠ gt := (L2_15.out).ne T_15.out (by decide)
                have L3 := Lib.hid (Whole.setRow_far L2_15.out (recC ⟨me, da, cl, su, pa, si, na, of⟩) ne)
                have hb2 : Below w0.heap.size w0 (x15.setRow gt (recC ⟨me, da, cl, su, pa, si, na, of⟩)) := below_setRow hHeld _ hgt2
                generalize x15.setRow gt _ = x17 at *
                refine hK.out _ _ ?_ (fun hHeld2 => ?_)
                · exact hb2
                clear hK K hHeld
                have hHeld := hHeld2; clear hHeld2
                try simp only [Act.put, List.setIfInBounds_toArray, List.set_cons_zero, List.set_cons_succ]
                try clear N1_15
                try clear L1_15
                try clear T_15
                try clear N2_15
                try clear L2_15
                refine wpAnyH_done (by kernel_rfl) ?_ _
                go_wp2_with fail
                go_meet
                case rel => exact ⟨gL2_15, gt, rfl, rfl, Lib.hid ⟨L3.out, T2.out, HR.out.bel hHeld, bel_after B0.out (Nat.le_refl _) hHeld, by have := Whole.lt HR.out; omega, Nat.le_trans B0.out.size hgt2⟩⟩
      · go_simp
        have NW : Whole (x2.alloc (.cells #[Value.int IntKind.i64 20] 3)) x2.heap.size 3 (iv [20]).toArray := Whole.new x2 3 _
        have hb : Below x2.heap.size x2 (x2.alloc (.cells #[Value.int IntKind.i64 20] 3)) := (Below.refl _ _).alloc (Nat.le_refl _) _
        generalize x2.alloc _ = x18 at *
        obtain ⟨gN2_18, hgN2_18⟩ : ∃ g, x2.heap.size = g := ⟨_, rfl⟩
        rw [hgN2_18] at NW hb ⊢
        rw [← hgN2_18] at hb
        have N1_18 := Lib.hid (Whole.bel N1_2.out hb)
        have N2_18 := Lib.hid NW
        refine hK.out _ _ ?_ (fun hHeld2 => ?_)
        · exact bel_after hHeld (Nat.le_refl _) hb
        clear hK K hHeld
        have hHeld := hHeld2; clear hHeld2
        try simp only [Act.put, List.setIfInBounds_toArray, List.set_cons_zero, List.set_cons_succ]
        clear hb
        clear NW
        try clear N1_2
        refine wpAnyH_ready (rs := [1, 5]) (by kernel_rfl) (by simp) ?_
        refine (AllReadyH.cons (o := ⟨some 8, _, _, _, _, _⟩) rfl (fun K hK => ?_) (AllReadyH.cons (o := ⟨some 6, _, _, _, _, _⟩) rfl (fun K hK => ?_) AllReadyH.nil))
        · go_simp
          refine (P1.out x18 _ N1_18.out).mono ?_
          rintro e x19 ⟨gL1_19, rfl, NW, hge, hb⟩
          have N1_19 := Lib.hid (Whole.bel N1_18.out hb)
          have N2_19 := Lib.hid (Whole.bel N2_18.out hb)
          have L1_19 := Lib.hid NW
          refine hK.out _ _ ?_ (fun hHeld2 => ?_)
          · exact bel_after hHeld (Nat.le_refl _) hb
          clear hK K hHeld
          have hHeld := hHeld2; clear hHeld2
          try simp only [Act.put, List.setIfInBounds_toArray, List.set_cons_zero, List.set_cons_succ]
          clear hb
          clear NW hge
          try clear N1_18
          try clear N2_18
          refine wpAnyH_ready (rs := [3, 5]) (by kernel_rfl) (by simp) ?_
          refine (AllReadyH.cons (o := ⟨some 10, _, _, _, _, _⟩) rfl (fun K hK => ?_) (AllReadyH.cons (o := ⟨some 6, _, _, _, _, _⟩) rfl (fun K hK => ?_) AllReadyH.nil))
          · go_simp
            refine (P2.out x19 _ _ L1_19.out N2_19.out).mono ?_
            rintro e x20 ⟨gL2_20, rfl, NW, hge, hb⟩
            have N1_20 := Lib.hid (Whole.bel N1_19.out hb)
            have N2_20 := Lib.hid (Whole.bel N2_19.out hb)
            have L1_20 := Lib.hid (Whole.bel L1_19.out hb)
            have L2_20 := Lib.hid NW
            refine hK.out _ _ ?_ (fun hHeld2 => ?_)
            · exact bel_after hHeld (Nat.le_refl _) hb
            clear hK K hHeld
            have hHeld := hHeld2; clear hHeld2
            try simp only [Act.put, List.setIfInBounds_toArray, List.set_cons_zero, List.set_cons_succ]
            clear hb
            clear NW hge
            try clear N1_19
            try clear N2_19
            try clear L1_19
            refine wpAnyH_ready (rs := [5]) (by kernel_rfl) (by simp) ?_
            refine (AllReadyH.cons (o := ⟨some 6, _, _, _, _, _⟩) rfl (fun K hK => ?_) AllReadyH.nil)
            · go_simp
              have NW := RecAt.new x20 ⟨0, 0, 0, 0, 0, 0, ⟨#[]⟩, 0⟩
              simp only [recC] at NW
              have hb := (Below.refl x20.heap.size x20).alloc (Nat.le_refl _) (.cells (recC ⟨0, 0, 0, 0, 0, 0, ⟨#[]⟩, 0⟩) 27)
              simp only [recC] at hb
              generalize x20.alloc _ = x21 at *
              obtain ⟨gt, hgt⟩ : ∃ g, x20.heap.size = g := ⟨_, rfl⟩
              rw [hgt] at NW hb ⊢
              have hgt2 : w0.heap.size ≤ gt := by rw [← hgt]; exact hHeld.size
              rw [← hgt] at hb
              have N1_21 := Lib.hid (Whole.bel N1_20.out hb)
              have N2_21 := Lib.hid (Whole.bel N2_20.out hb)
              have L1_21 := Lib.hid (Whole.bel L1_20.out hb)
              have L2_21 := Lib.hid (Whole.bel L2_20.out hb)
              have T_21 := Lib.hid NW
              refine hK.out _ _ ?_ (fun hHeld2 => ?_)
              · exact bel_after hHeld (Nat.le_refl _) hb
              clear hK K hHeld
              have hHeld := hHeld2; clear hHeld2
              try simp only [Act.put, List.setIfInBounds_toArray, List.set_cons_zero, List.set_cons_succ]
              clear hb
              clear NW hgt
              try clear N1_20
              try clear N2_20
              try clear L1_20
              try clear L2_20
              refine wpAnyH_take (i := 6) (oi := ⟨some 5, _, _, _, _, _⟩) (v := ?v6_22) rfl (by kernel_rfl) (by kernel_rfl) (by kernel_rfl) (fun _ _ _ h => h) (Or.inl ⟨by rfl, ?hy6_22⟩) (by assumption) ?rest6_22
              case hy6_22 => intro W hSW; go_simp; try rfl
              try simp only [Act.put, List.setIfInBounds_toArray, List.set_cons_zero, List.set_cons_succ]
              refine wpAnyH_ready (rs := [7]) (by kernel_rfl) (by simp) ?_
              refine (AllReadyH.cons (o := ⟨none, _, _, _, _, _⟩) rfl (fun K hK => ?_) AllReadyH.nil)
              · refine step_store_row _ rfl 27 (.tmp 6) (.tmp 11) rfl gt (recC ⟨me, da, cl, su, pa, si, na, of⟩) rfl rfl 27 (recC ⟨0, 0, 0, 0, 0, 0, ⟨#[]⟩, 0⟩) T_21.out (rec_size _) rfl (rec_one _) ?_
                have T2 : Hid (RecAt (x21.setRow gt (recC ⟨me, da, cl, su, pa, si, na, of⟩)) gt ⟨me, da, cl, su, pa, si, na, of⟩) := Lib.hid (Whole.setRow T_21.out _)
                have ne : gL2_20 ≠ gt := (L2_21.out).ne T_21.out (by decide)
                have L3 := Lib.hid (Whole.setRow_far L2_21.out (recC ⟨me, da, cl, su, pa, si, na, of⟩) ne)
                have hb2 : Below w0.heap.size w0 (x21.setRow gt (recC ⟨me, da, cl, su, pa, si, na, of⟩)) := below_setRow hHeld _ hgt2
                generalize x21.setRow gt _ = x23 at *
                refine hK.out _ _ ?_ (fun hHeld2 => ?_)
                · exact hb2
                clear hK K hHeld
                have hHeld := hHeld2; clear hHeld2
                try simp only [Act.put, List.setIfInBounds_toArray, List.set_cons_zero, List.set_cons_succ]
                try clear N1_21
                try clear N2_21
                try clear L1_21
                try clear L2_21
                try clear T_21
                refine wpAnyH_done (by kernel_rfl) ?_ _
                go_wp2_with fail
                go_meet
                case rel => exact ⟨gL2_20, gt, rfl, rfl, Lib.hid ⟨L3.out, T2.out, HR.out.bel hHeld, bel_after B0.out (Nat.le_refl _) hHeld, by have := Whole.lt HR.out; omega, Nat.le_trans B0.out.size hgt2⟩⟩
          · go_simp
            have NW := RecAt.new x19 ⟨0, 0, 0, 0, 0, 0, ⟨#[]⟩, 0⟩
            simp only [recC] at NW
            have hb := (Below.refl x19.heap.size x19).alloc (Nat.le_refl _) (.cells (recC ⟨0, 0, 0, 0, 0, 0, ⟨#[]⟩, 0⟩) 27)
            simp only [recC] at hb
            generalize x19.alloc _ = x24 at *
            obtain ⟨gt, hgt⟩ : ∃ g, x19.heap.size = g := ⟨_, rfl⟩
            rw [hgt] at NW hb ⊢
            have hgt2 : w0.heap.size ≤ gt := by rw [← hgt]; exact hHeld.size
            rw [← hgt] at hb
            have N1_24 := Lib.hid (Whole.bel N1_19.out hb)
            have N2_24 := Lib.hid (Whole.bel N2_19.out hb)
            have L1_24 := Lib.hid (Whole.bel L1_19.out hb)
            have T_24 := Lib.hid NW
            refine hK.out _ _ ?_ (fun hHeld2 => ?_)
            · exact bel_after hHeld (Nat.le_refl _) hb
            clear hK K hHeld
            have hHeld := hHeld2; clear hHeld2
            try simp only [Act.put, List.setIfInBounds_toArray, List.set_cons_zero, List.set_cons_succ]
            clear hb
            clear NW hgt
            try clear N1_19
            try clear N2_19
            try clear L1_19
            refine wpAnyH_ready (rs := [3]) (by kernel_rfl) (by simp) ?_
            refine (AllReadyH.cons (o := ⟨some 10, _, _, _, _, _⟩) rfl (fun K hK => ?_) AllReadyH.nil)
            · go_simp
              refine (P2.out x24 _ _ L1_24.out N2_24.out).mono ?_
              rintro e x25 ⟨gL2_25, rfl, NW, hge, hb⟩
              have N1_25 := Lib.hid (Whole.bel N1_24.out hb)
              have N2_25 := Lib.hid (Whole.bel N2_24.out hb)
              have L1_25 := Lib.hid (Whole.bel L1_24.out hb)
              have T_25 := Lib.hid (RecAt.bel T_24.out hb)
              have L2_25 := Lib.hid NW
              refine hK.out _ _ ?_ (fun hHeld2 => ?_)
              · exact bel_after hHeld (Nat.le_refl _) hb
              clear hK K hHeld
              have hHeld := hHeld2; clear hHeld2
              try simp only [Act.put, List.setIfInBounds_toArray, List.set_cons_zero, List.set_cons_succ]
              clear hb
              clear NW hge
              try clear N1_24
              try clear N2_24
              try clear L1_24
              try clear T_24
              refine wpAnyH_take (i := 6) (oi := ⟨some 5, _, _, _, _, _⟩) (v := ?v6_26) rfl (by kernel_rfl) (by kernel_rfl) (by kernel_rfl) (fun _ _ _ h => h) (Or.inl ⟨by rfl, ?hy6_26⟩) (by assumption) ?rest6_26
              case hy6_26 => intro W hSW; go_simp; try rfl
              try simp only [Act.put, List.setIfInBounds_toArray, List.set_cons_zero, List.set_cons_succ]
              refine wpAnyH_ready (rs := [7]) (by kernel_rfl) (by simp) ?_
              refine (AllReadyH.cons (o := ⟨none, _, _, _, _, _⟩) rfl (fun K hK => ?_) AllReadyH.nil)
              · refine step_store_row _ rfl 27 (.tmp 6) (.tmp 11) rfl gt (recC ⟨me, da, cl, su, pa, si, na, of⟩) rfl rfl 27 (recC ⟨0, 0, 0, 0, 0, 0, ⟨#[]⟩, 0⟩) T_25.out (rec_size _) rfl (rec_one _) ?_
                have T2 : Hid (RecAt (x25.setRow gt (recC ⟨me, da, cl, su, pa, si, na, of⟩)) gt ⟨me, da, cl, su, pa, si, na, of⟩) := Lib.hid (Whole.setRow T_25.out _)
                have ne : gL2_25 ≠ gt := (L2_25.out).ne T_25.out (by decide)
                have L3 := Lib.hid (Whole.setRow_far L2_25.out (recC ⟨me, da, cl, su, pa, si, na, of⟩) ne)
                have hb2 : Below w0.heap.size w0 (x25.setRow gt (recC ⟨me, da, cl, su, pa, si, na, of⟩)) := below_setRow hHeld _ hgt2
                generalize x25.setRow gt _ = x27 at *
                refine hK.out _ _ ?_ (fun hHeld2 => ?_)
                · exact hb2
                clear hK K hHeld
                have hHeld := hHeld2; clear hHeld2
                try simp only [Act.put, List.setIfInBounds_toArray, List.set_cons_zero, List.set_cons_succ]
                try clear N1_25
                try clear N2_25
                try clear L1_25
                try clear T_25
                try clear L2_25
                refine wpAnyH_done (by kernel_rfl) ?_ _
                go_wp2_with fail
                go_meet
                case rel => exact ⟨gL2_25, gt, rfl, rfl, Lib.hid ⟨L3.out, T2.out, HR.out.bel hHeld, bel_after B0.out (Nat.le_refl _) hHeld, by have := Whole.lt HR.out; omega, Nat.le_trans B0.out.size hgt2⟩⟩
        · go_simp
          have NW := RecAt.new x18 ⟨0, 0, 0, 0, 0, 0, ⟨#[]⟩, 0⟩
          simp only [recC] at NW
          have hb := (Below.refl x18.heap.size x18).alloc (Nat.le_refl _) (.cells (recC ⟨0, 0, 0, 0, 0, 0, ⟨#[]⟩, 0⟩) 27)
          simp only [recC] at hb
          generalize x18.alloc _ = x28 at *
          obtain ⟨gt, hgt⟩ : ∃ g, x18.heap.size = g := ⟨_, rfl⟩
          rw [hgt] at NW hb ⊢
          have hgt2 : w0.heap.size ≤ gt := by rw [← hgt]; exact hHeld.size
          rw [← hgt] at hb
          have N1_28 := Lib.hid (Whole.bel N1_18.out hb)
          have N2_28 := Lib.hid (Whole.bel N2_18.out hb)
          have T_28 := Lib.hid NW
          refine hK.out _ _ ?_ (fun hHeld2 => ?_)
          · exact bel_after hHeld (Nat.le_refl _) hb
          clear hK K hHeld
          have hHeld := hHeld2; clear hHeld2
          try simp only [Act.put, List.setIfInBounds_toArray, List.set_cons_zero, List.set_cons_succ]
          clear hb
          clear NW hgt
          try clear N1_18
          try clear N2_18
          refine wpAnyH_ready (rs := [1]) (by kernel_rfl) (by simp) ?_
          refine (AllReadyH.cons (o := ⟨some 8, _, _, _, _, _⟩) rfl (fun K hK => ?_) AllReadyH.nil)
          · go_simp
            refine (P1.out x28 _ N1_28.out).mono ?_
            rintro e x29 ⟨gL1_29, rfl, NW, hge, hb⟩
            have N1_29 := Lib.hid (Whole.bel N1_28.out hb)
            have N2_29 := Lib.hid (Whole.bel N2_28.out hb)
            have T_29 := Lib.hid (RecAt.bel T_28.out hb)
            have L1_29 := Lib.hid NW
            refine hK.out _ _ ?_ (fun hHeld2 => ?_)
            · exact bel_after hHeld (Nat.le_refl _) hb
            clear hK K hHeld
            have hHeld := hHeld2; clear hHeld2
            try simp only [Act.put, List.setIfInBounds_toArray, List.set_cons_zero, List.set_cons_succ]
            clear hb
            clear NW hge
            try clear N1_28
            try clear N2_28
            try clear T_28
            refine wpAnyH_ready (rs := [3]) (by kernel_rfl) (by simp) ?_
            refine (AllReadyH.cons (o := ⟨some 10, _, _, _, _, _⟩) rfl (fun K hK => ?_) AllReadyH.nil)
            · go_simp
              refine (P2.out x29 _ _ L1_29.out N2_29.out).mono ?_
              rintro e x30 ⟨gL2_30, rfl, NW, hge, hb⟩
              have N1_30 := Lib.hid (Whole.bel N1_29.out hb)
              have N2_30 := Lib.hid (Whole.bel N2_29.out hb)
              have T_30 := Lib.hid (RecAt.bel T_29.out hb)
              have L1_30 := Lib.hid (Whole.bel L1_29.out hb)
              have L2_30 := Lib.hid NW
              refine hK.out _ _ ?_ (fun hHeld2 => ?_)
              · exact bel_after hHeld (Nat.le_refl _) hb
              clear hK K hHeld
              have hHeld := hHeld2; clear hHeld2
              try simp only [Act.put, List.setIfInBounds_toArray, List.set_cons_zero, List.set_cons_succ]
              clear hb
              clear NW hge
              try clear N1_29
              try clear N2_29
              try clear T_29
              try clear L1_29
              refine wpAnyH_take (i := 6) (oi := ⟨some 5, _, _, _, _, _⟩) (v := ?v6_31) rfl (by kernel_rfl) (by kernel_rfl) (by kernel_rfl) (fun _ _ _ h => h) (Or.inl ⟨by rfl, ?hy6_31⟩) (by assumption) ?rest6_31
              case hy6_31 => intro W hSW; go_simp; try rfl
              try simp only [Act.put, List.setIfInBounds_toArray, List.set_cons_zero, List.set_cons_succ]
              refine wpAnyH_ready (rs := [7]) (by kernel_rfl) (by simp) ?_
              refine (AllReadyH.cons (o := ⟨none, _, _, _, _, _⟩) rfl (fun K hK => ?_) AllReadyH.nil)
              · refine step_store_row _ rfl 27 (.tmp 6) (.tmp 11) rfl gt (recC ⟨me, da, cl, su, pa, si, na, of⟩) rfl rfl 27 (recC ⟨0, 0, 0, 0, 0, 0, ⟨#[]⟩, 0⟩) T_30.out (rec_size _) rfl (rec_one _) ?_
                have T2 : Hid (RecAt (x30.setRow gt (recC ⟨me, da, cl, su, pa, si, na, of⟩)) gt ⟨me, da, cl, su, pa, si, na, of⟩) := Lib.hid (Whole.setRow T_30.out _)
                have ne : gL2_30 ≠ gt := (L2_30.out).ne T_30.out (by decide)
                have L3 := Lib.hid (Whole.setRow_far L2_30.out (recC ⟨me, da, cl, su, pa, si, na, of⟩) ne)
                have hb2 : Below w0.heap.size w0 (x30.setRow gt (recC ⟨me, da, cl, su, pa, si, na, of⟩)) := below_setRow hHeld _ hgt2
                generalize x30.setRow gt _ = x32 at *
                refine hK.out _ _ ?_ (fun hHeld2 => ?_)
                · exact hb2
                clear hK K hHeld
                have hHeld := hHeld2; clear hHeld2
                try simp only [Act.put, List.setIfInBounds_toArray, List.set_cons_zero, List.set_cons_succ]
                try clear N1_30
                try clear N2_30
                try clear T_30
                try clear L1_30
                try clear L2_30
                refine wpAnyH_done (by kernel_rfl) ?_ _
                go_wp2_with fail
                go_meet
                case rel => exact ⟨gL2_30, gt, rfl, rfl, Lib.hid ⟨L3.out, T2.out, HR.out.bel hHeld, bel_after B0.out (Nat.le_refl _) hHeld, by have := Whole.lt HR.out; omega, Nat.le_trans B0.out.size hgt2⟩⟩
      · go_simp
        have NW := RecAt.new x2 ⟨0, 0, 0, 0, 0, 0, ⟨#[]⟩, 0⟩
        simp only [recC] at NW
        have hb := (Below.refl x2.heap.size x2).alloc (Nat.le_refl _) (.cells (recC ⟨0, 0, 0, 0, 0, 0, ⟨#[]⟩, 0⟩) 27)
        simp only [recC] at hb
        generalize x2.alloc _ = x33 at *
        obtain ⟨gt, hgt⟩ : ∃ g, x2.heap.size = g := ⟨_, rfl⟩
        rw [hgt] at NW hb ⊢
        have hgt2 : w0.heap.size ≤ gt := by rw [← hgt]; exact hHeld.size
        rw [← hgt] at hb
        have N1_33 := Lib.hid (Whole.bel N1_2.out hb)
        have T_33 := Lib.hid NW
        refine hK.out _ _ ?_ (fun hHeld2 => ?_)
        · exact bel_after hHeld (Nat.le_refl _) hb
        clear hK K hHeld
        have hHeld := hHeld2; clear hHeld2
        try simp only [Act.put, List.setIfInBounds_toArray, List.set_cons_zero, List.set_cons_succ]
        clear hb
        clear NW hgt
        try clear N1_2
        refine wpAnyH_ready (rs := [1, 2]) (by kernel_rfl) (by simp) ?_
        refine (AllReadyH.cons (o := ⟨some 8, _, _, _, _, _⟩) rfl (fun K hK => ?_) (AllReadyH.cons (o := ⟨some 9, _, _, _, _, _⟩) rfl (fun K hK => ?_) AllReadyH.nil))
        · go_simp
          refine (P1.out x33 _ N1_33.out).mono ?_
          rintro e x34 ⟨gL1_34, rfl, NW, hge, hb⟩
          have N1_34 := Lib.hid (Whole.bel N1_33.out hb)
          have T_34 := Lib.hid (RecAt.bel T_33.out hb)
          have L1_34 := Lib.hid NW
          refine hK.out _ _ ?_ (fun hHeld2 => ?_)
          · exact bel_after hHeld (Nat.le_refl _) hb
          clear hK K hHeld
          have hHeld := hHeld2; clear hHeld2
          try simp only [Act.put, List.setIfInBounds_toArray, List.set_cons_zero, List.set_cons_succ]
          clear hb
          clear NW hge
          try clear N1_33
          try clear T_33
          refine wpAnyH_ready (rs := [2]) (by kernel_rfl) (by simp) ?_
          refine (AllReadyH.cons (o := ⟨some 9, _, _, _, _, _⟩) rfl (fun K hK => ?_) AllReadyH.nil)
          · go_simp
            have NW : Whole (x34.alloc (.cells #[Value.int IntKind.i64 20] 3)) x34.heap.size 3 (iv [20]).toArray := Whole.new x34 3 _
            have hb : Below x34.heap.size x34 (x34.alloc (.cells #[Value.int IntKind.i64 20] 3)) := (Below.refl _ _).alloc (Nat.le_refl _) _
            generalize x34.alloc _ = x35 at *
            obtain ⟨gN2_35, hgN2_35⟩ : ∃ g, x34.heap.size = g := ⟨_, rfl⟩
            rw [hgN2_35] at NW hb ⊢
            rw [← hgN2_35] at hb
            have N1_35 := Lib.hid (Whole.bel N1_34.out hb)
            have T_35 := Lib.hid (RecAt.bel T_34.out hb)
            have L1_35 := Lib.hid (Whole.bel L1_34.out hb)
            have N2_35 := Lib.hid NW
            refine hK.out _ _ ?_ (fun hHeld2 => ?_)
            · exact bel_after hHeld (Nat.le_refl _) hb
            clear hK K hHeld
            have hHeld := hHeld2; clear hHeld2
            try simp only [Act.put, List.setIfInBounds_toArray, List.set_cons_zero, List.set_cons_succ]
            clear hb
            clear NW
            try clear N1_34
            try clear T_34
            try clear L1_34
            refine wpAnyH_ready (rs := [3]) (by kernel_rfl) (by simp) ?_
            refine (AllReadyH.cons (o := ⟨some 10, _, _, _, _, _⟩) rfl (fun K hK => ?_) AllReadyH.nil)
            · go_simp
              refine (P2.out x35 _ _ L1_35.out N2_35.out).mono ?_
              rintro e x36 ⟨gL2_36, rfl, NW, hge, hb⟩
              have N1_36 := Lib.hid (Whole.bel N1_35.out hb)
              have T_36 := Lib.hid (RecAt.bel T_35.out hb)
              have L1_36 := Lib.hid (Whole.bel L1_35.out hb)
              have N2_36 := Lib.hid (Whole.bel N2_35.out hb)
              have L2_36 := Lib.hid NW
              refine hK.out _ _ ?_ (fun hHeld2 => ?_)
              · exact bel_after hHeld (Nat.le_refl _) hb
              clear hK K hHeld
              have hHeld := hHeld2; clear hHeld2
              try simp only [Act.put, List.setIfInBounds_toArray, List.set_cons_zero, List.set_cons_succ]
              clear hb
              clear NW hge
              try clear N1_35
              try clear T_35
              try clear L1_35
              try clear N2_35
              refine wpAnyH_take (i := 6) (oi := ⟨some 5, _, _, _, _, _⟩) (v := ?v6_37) rfl (by kernel_rfl) (by kernel_rfl) (by kernel_rfl) (fun _ _ _ h => h) (Or.inl ⟨by rfl, ?hy6_37⟩) (by assumption) ?rest6_37
              case hy6_37 => intro W hSW; go_simp; try rfl
              try simp only [Act.put, List.setIfInBounds_toArray, List.set_cons_zero, List.set_cons_succ]
              refine wpAnyH_ready (rs := [7]) (by kernel_rfl) (by simp) ?_
              refine (AllReadyH.cons (o := ⟨none, _, _, _, _, _⟩) rfl (fun K hK => ?_) AllReadyH.nil)
              · refine step_store_row _ rfl 27 (.tmp 6) (.tmp 11) rfl gt (recC ⟨me, da, cl, su, pa, si, na, of⟩) rfl rfl 27 (recC ⟨0, 0, 0, 0, 0, 0, ⟨#[]⟩, 0⟩) T_36.out (rec_size _) rfl (rec_one _) ?_
                have T2 : Hid (RecAt (x36.setRow gt (recC ⟨me, da, cl, su, pa, si, na, of⟩)) gt ⟨me, da, cl, su, pa, si, na, of⟩) := Lib.hid (Whole.setRow T_36.out _)
                have ne : gL2_36 ≠ gt := (L2_36.out).ne T_36.out (by decide)
                have L3 := Lib.hid (Whole.setRow_far L2_36.out (recC ⟨me, da, cl, su, pa, si, na, of⟩) ne)
                have hb2 : Below w0.heap.size w0 (x36.setRow gt (recC ⟨me, da, cl, su, pa, si, na, of⟩)) := below_setRow hHeld _ hgt2
                generalize x36.setRow gt _ = x38 at *
                refine hK.out _ _ ?_ (fun hHeld2 => ?_)
                · exact hb2
                clear hK K hHeld
                have hHeld := hHeld2; clear hHeld2
                try simp only [Act.put, List.setIfInBounds_toArray, List.set_cons_zero, List.set_cons_succ]
                try clear N1_36
                try clear T_36
                try clear L1_36
                try clear N2_36
                try clear L2_36
                refine wpAnyH_done (by kernel_rfl) ?_ _
                go_wp2_with fail
                go_meet
                case rel => exact ⟨gL2_36, gt, rfl, rfl, Lib.hid ⟨L3.out, T2.out, HR.out.bel hHeld, bel_after B0.out (Nat.le_refl _) hHeld, by have := Whole.lt HR.out; omega, Nat.le_trans B0.out.size hgt2⟩⟩
        · go_simp
          have NW : Whole (x33.alloc (.cells #[Value.int IntKind.i64 20] 3)) x33.heap.size 3 (iv [20]).toArray := Whole.new x33 3 _
          have hb : Below x33.heap.size x33 (x33.alloc (.cells #[Value.int IntKind.i64 20] 3)) := (Below.refl _ _).alloc (Nat.le_refl _) _
          generalize x33.alloc _ = x39 at *
          obtain ⟨gN2_39, hgN2_39⟩ : ∃ g, x33.heap.size = g := ⟨_, rfl⟩
          rw [hgN2_39] at NW hb ⊢
          rw [← hgN2_39] at hb
          have N1_39 := Lib.hid (Whole.bel N1_33.out hb)
          have T_39 := Lib.hid (RecAt.bel T_33.out hb)
          have N2_39 := Lib.hid NW
          refine hK.out _ _ ?_ (fun hHeld2 => ?_)
          · exact bel_after hHeld (Nat.le_refl _) hb
          clear hK K hHeld
          have hHeld := hHeld2; clear hHeld2
          try simp only [Act.put, List.setIfInBounds_toArray, List.set_cons_zero, List.set_cons_succ]
          clear hb
          clear NW
          try clear N1_33
          try clear T_33
          refine wpAnyH_ready (rs := [1]) (by kernel_rfl) (by simp) ?_
          refine (AllReadyH.cons (o := ⟨some 8, _, _, _, _, _⟩) rfl (fun K hK => ?_) AllReadyH.nil)
          · go_simp
            refine (P1.out x39 _ N1_39.out).mono ?_
            rintro e x40 ⟨gL1_40, rfl, NW, hge, hb⟩
            have N1_40 := Lib.hid (Whole.bel N1_39.out hb)
            have T_40 := Lib.hid (RecAt.bel T_39.out hb)
            have N2_40 := Lib.hid (Whole.bel N2_39.out hb)
            have L1_40 := Lib.hid NW
            refine hK.out _ _ ?_ (fun hHeld2 => ?_)
            · exact bel_after hHeld (Nat.le_refl _) hb
            clear hK K hHeld
            have hHeld := hHeld2; clear hHeld2
            try simp only [Act.put, List.setIfInBounds_toArray, List.set_cons_zero, List.set_cons_succ]
            clear hb
            clear NW hge
            try clear N1_39
            try clear T_39
            try clear N2_39
            refine wpAnyH_ready (rs := [3]) (by kernel_rfl) (by simp) ?_
            refine (AllReadyH.cons (o := ⟨some 10, _, _, _, _, _⟩) rfl (fun K hK => ?_) AllReadyH.nil)
            · go_simp
              refine (P2.out x40 _ _ L1_40.out N2_40.out).mono ?_
              rintro e x41 ⟨gL2_41, rfl, NW, hge, hb⟩
              have N1_41 := Lib.hid (Whole.bel N1_40.out hb)
              have T_41 := Lib.hid (RecAt.bel T_40.out hb)
              have N2_41 := Lib.hid (Whole.bel N2_40.out hb)
              have L1_41 := Lib.hid (Whole.bel L1_40.out hb)
              have L2_41 := Lib.hid NW
              refine hK.out _ _ ?_ (fun hHeld2 => ?_)
              · exact bel_after hHeld (Nat.le_refl _) hb
              clear hK K hHeld
              have hHeld := hHeld2; clear hHeld2
              try simp only [Act.put, List.setIfInBounds_toArray, List.set_cons_zero, List.set_cons_succ]
              clear hb
              clear NW hge
              try clear N1_40
              try clear T_40
              try clear N2_40
              try clear L1_40
              refine wpAnyH_take (i := 6) (oi := ⟨some 5, _, _, _, _, _⟩) (v := ?v6_42) rfl (by kernel_rfl) (by kernel_rfl) (by kernel_rfl) (fun _ _ _ h => h) (Or.inl ⟨by rfl, ?hy6_42⟩) (by assumption) ?rest6_42
              case hy6_42 => intro W hSW; go_simp; try rfl
              try simp only [Act.put, List.setIfInBounds_toArray, List.set_cons_zero, List.set_cons_succ]
              refine wpAnyH_ready (rs := [7]) (by kernel_rfl) (by simp) ?_
              refine (AllReadyH.cons (o := ⟨none, _, _, _, _, _⟩) rfl (fun K hK => ?_) AllReadyH.nil)
              · refine step_store_row _ rfl 27 (.tmp 6) (.tmp 11) rfl gt (recC ⟨me, da, cl, su, pa, si, na, of⟩) rfl rfl 27 (recC ⟨0, 0, 0, 0, 0, 0, ⟨#[]⟩, 0⟩) T_41.out (rec_size _) rfl (rec_one _) ?_
                have T2 : Hid (RecAt (x41.setRow gt (recC ⟨me, da, cl, su, pa, si, na, of⟩)) gt ⟨me, da, cl, su, pa, si, na, of⟩) := Lib.hid (Whole.setRow T_41.out _)
                have ne : gL2_41 ≠ gt := (L2_41.out).ne T_41.out (by decide)
                have L3 := Lib.hid (Whole.setRow_far L2_41.out (recC ⟨me, da, cl, su, pa, si, na, of⟩) ne)
                have hb2 : Below w0.heap.size w0 (x41.setRow gt (recC ⟨me, da, cl, su, pa, si, na, of⟩)) := below_setRow hHeld _ hgt2
                generalize x41.setRow gt _ = x43 at *
                refine hK.out _ _ ?_ (fun hHeld2 => ?_)
                · exact hb2
                clear hK K hHeld
                have hHeld := hHeld2; clear hHeld2
                try simp only [Act.put, List.setIfInBounds_toArray, List.set_cons_zero, List.set_cons_succ]
                try clear N1_41
                try clear T_41
                try clear N2_41
                try clear L1_41
                try clear L2_41
                refine wpAnyH_done (by kernel_rfl) ?_ _
                go_wp2_with fail
                go_meet
                case rel => exact ⟨gL2_41, gt, rfl, rfl, Lib.hid ⟨L3.out, T2.out, HR.out.bel hHeld, bel_after B0.out (Nat.le_refl _) hHeld, by have := Whole.lt HR.out; omega, Nat.le_trans B0.out.size hgt2⟩⟩
    · go_simp
      have NW : Whole (wd.alloc (.cells #[Value.int IntKind.i64 20] 3)) wd.heap.size 3 (iv [20]).toArray := Whole.new wd 3 _
      have hb : Below wd.heap.size wd (wd.alloc (.cells #[Value.int IntKind.i64 20] 3)) := (Below.refl _ _).alloc (Nat.le_refl _) _
      generalize wd.alloc _ = x44 at *
      obtain ⟨gN2_44, hgN2_44⟩ : ∃ g, wd.heap.size = g := ⟨_, rfl⟩
      rw [hgN2_44] at NW hb ⊢
      rw [← hgN2_44] at hb
      have N2_44 := Lib.hid NW
      refine hK.out _ _ ?_ (fun hHeld2 => ?_)
      · exact bel_after hHeld (Nat.le_refl _) hb
      clear hK K hHeld
      have hHeld := hHeld2; clear hHeld2
      try simp only [Act.put, List.setIfInBounds_toArray, List.set_cons_zero, List.set_cons_succ]
      clear hb
      clear NW
      refine wpAnyH_ready (rs := [0, 5]) (by kernel_rfl) (by simp) ?_
      refine (AllReadyH.cons (o := ⟨some 7, _, _, _, _, _⟩) rfl (fun K hK => ?_) (AllReadyH.cons (o := ⟨some 6, _, _, _, _, _⟩) rfl (fun K hK => ?_) AllReadyH.nil))
      · go_simp
        have NW : Whole (x44.alloc (.cells #[Value.int IntKind.i64 67324752] 3)) x44.heap.size 3 (iv [67324752]).toArray := Whole.new x44 3 _
        have hb : Below x44.heap.size x44 (x44.alloc (.cells #[Value.int IntKind.i64 67324752] 3)) := (Below.refl _ _).alloc (Nat.le_refl _) _
        generalize x44.alloc _ = x45 at *
        obtain ⟨gN1_45, hgN1_45⟩ : ∃ g, x44.heap.size = g := ⟨_, rfl⟩
        rw [hgN1_45] at NW hb ⊢
        rw [← hgN1_45] at hb
        have N2_45 := Lib.hid (Whole.bel N2_44.out hb)
        have N1_45 := Lib.hid NW
        refine hK.out _ _ ?_ (fun hHeld2 => ?_)
        · exact bel_after hHeld (Nat.le_refl _) hb
        clear hK K hHeld
        have hHeld := hHeld2; clear hHeld2
        try simp only [Act.put, List.setIfInBounds_toArray, List.set_cons_zero, List.set_cons_succ]
        clear hb
        clear NW
        try clear N2_44
        refine wpAnyH_ready (rs := [1, 5]) (by kernel_rfl) (by simp) ?_
        refine (AllReadyH.cons (o := ⟨some 8, _, _, _, _, _⟩) rfl (fun K hK => ?_) (AllReadyH.cons (o := ⟨some 6, _, _, _, _, _⟩) rfl (fun K hK => ?_) AllReadyH.nil))
        · go_simp
          refine (P1.out x45 _ N1_45.out).mono ?_
          rintro e x46 ⟨gL1_46, rfl, NW, hge, hb⟩
          have N2_46 := Lib.hid (Whole.bel N2_45.out hb)
          have N1_46 := Lib.hid (Whole.bel N1_45.out hb)
          have L1_46 := Lib.hid NW
          refine hK.out _ _ ?_ (fun hHeld2 => ?_)
          · exact bel_after hHeld (Nat.le_refl _) hb
          clear hK K hHeld
          have hHeld := hHeld2; clear hHeld2
          try simp only [Act.put, List.setIfInBounds_toArray, List.set_cons_zero, List.set_cons_succ]
          clear hb
          clear NW hge
          try clear N2_45
          try clear N1_45
          refine wpAnyH_ready (rs := [3, 5]) (by kernel_rfl) (by simp) ?_
          refine (AllReadyH.cons (o := ⟨some 10, _, _, _, _, _⟩) rfl (fun K hK => ?_) (AllReadyH.cons (o := ⟨some 6, _, _, _, _, _⟩) rfl (fun K hK => ?_) AllReadyH.nil))
          · go_simp
            refine (P2.out x46 _ _ L1_46.out N2_46.out).mono ?_
            rintro e x47 ⟨gL2_47, rfl, NW, hge, hb⟩
            have N2_47 := Lib.hid (Whole.bel N2_46.out hb)
            have N1_47 := Lib.hid (Whole.bel N1_46.out hb)
            have L1_47 := Lib.hid (Whole.bel L1_46.out hb)
            have L2_47 := Lib.hid NW
            refine hK.out _ _ ?_ (fun hHeld2 => ?_)
            · exact bel_after hHeld (Nat.le_refl _) hb
            clear hK K hHeld
            have hHeld := hHeld2; clear hHeld2
            try simp only [Act.put, List.setIfInBounds_toArray, List.set_cons_zero, List.set_cons_succ]
            clear hb
            clear NW hge
            try clear N2_46
            try clear N1_46
            try clear L1_46
            refine wpAnyH_ready (rs := [5]) (by kernel_rfl) (by simp) ?_
            refine (AllReadyH.cons (o := ⟨some 6, _, _, _, _, _⟩) rfl (fun K hK => ?_) AllReadyH.nil)
            · go_simp
              have NW := RecAt.new x47 ⟨0, 0, 0, 0, 0, 0, ⟨#[]⟩, 0⟩
              simp only [recC] at NW
              have hb := (Below.refl x47.heap.size x47).alloc (Nat.le_refl _) (.cells (recC ⟨0, 0, 0, 0, 0, 0, ⟨#[]⟩, 0⟩) 27)
              simp only [recC] at hb
              generalize x47.alloc _ = x48 at *
              obtain ⟨gt, hgt⟩ : ∃ g, x47.heap.size = g := ⟨_, rfl⟩
              rw [hgt] at NW hb ⊢
              have hgt2 : w0.heap.size ≤ gt := by rw [← hgt]; exact hHeld.size
              rw [← hgt] at hb
              have N2_48 := Lib.hid (Whole.bel N2_47.out hb)
              have N1_48 := Lib.hid (Whole.bel N1_47.out hb)
              have L1_48 := Lib.hid (Whole.bel L1_47.out hb)
              have L2_48 := Lib.hid (Whole.bel L2_47.out hb)
              have T_48 := Lib.hid NW
              refine hK.out _ _ ?_ (fun hHeld2 => ?_)
              · exact bel_after hHeld (Nat.le_refl _) hb
              clear hK K hHeld
              have hHeld := hHeld2; clear hHeld2
              try simp only [Act.put, List.setIfInBounds_toArray, List.set_cons_zero, List.set_cons_succ]
              clear hb
              clear NW hgt
              try clear N2_47
              try clear N1_47
              try clear L1_47
              try clear L2_47
              refine wpAnyH_take (i := 6) (oi := ⟨some 5, _, _, _, _, _⟩) (v := ?v6_49) rfl (by kernel_rfl) (by kernel_rfl) (by kernel_rfl) (fun _ _ _ h => h) (Or.inl ⟨by rfl, ?hy6_49⟩) (by assumption) ?rest6_49
              case hy6_49 => intro W hSW; go_simp; try rfl
              try simp only [Act.put, List.setIfInBounds_toArray, List.set_cons_zero, List.set_cons_succ]
              refine wpAnyH_ready (rs := [7]) (by kernel_rfl) (by simp) ?_
              refine (AllReadyH.cons (o := ⟨none, _, _, _, _, _⟩) rfl (fun K hK => ?_) AllReadyH.nil)
              · refine step_store_row _ rfl 27 (.tmp 6) (.tmp 11) rfl gt (recC ⟨me, da, cl, su, pa, si, na, of⟩) rfl rfl 27 (recC ⟨0, 0, 0, 0, 0, 0, ⟨#[]⟩, 0⟩) T_48.out (rec_size _) rfl (rec_one _) ?_
                have T2 : Hid (RecAt (x48.setRow gt (recC ⟨me, da, cl, su, pa, si, na, of⟩)) gt ⟨me, da, cl, su, pa, si, na, of⟩) := Lib.hid (Whole.setRow T_48.out _)
                have ne : gL2_47 ≠ gt := (L2_48.out).ne T_48.out (by decide)
                have L3 := Lib.hid (Whole.setRow_far L2_48.out (recC ⟨me, da, cl, su, pa, si, na, of⟩) ne)
                have hb2 : Below w0.heap.size w0 (x48.setRow gt (recC ⟨me, da, cl, su, pa, si, na, of⟩)) := below_setRow hHeld _ hgt2
                generalize x48.setRow gt _ = x50 at *
                refine hK.out _ _ ?_ (fun hHeld2 => ?_)
                · exact hb2
                clear hK K hHeld
                have hHeld := hHeld2; clear hHeld2
                try simp only [Act.put, List.setIfInBounds_toArray, List.set_cons_zero, List.set_cons_succ]
                try clear N2_48
                try clear N1_48
                try clear L1_48
                try clear L2_48
                try clear T_48
                refine wpAnyH_done (by kernel_rfl) ?_ _
                go_wp2_with fail
                go_meet
                case rel => exact ⟨gL2_47, gt, rfl, rfl, Lib.hid ⟨L3.out, T2.out, HR.out.bel hHeld, bel_after B0.out (Nat.le_refl _) hHeld, by have := Whole.lt HR.out; omega, Nat.le_trans B0.out.size hgt2⟩⟩
          · go_simp
            have NW := RecAt.new x46 ⟨0, 0, 0, 0, 0, 0, ⟨#[]⟩, 0⟩
            simp only [recC] at NW
            have hb := (Below.refl x46.heap.size x46).alloc (Nat.le_refl _) (.cells (recC ⟨0, 0, 0, 0, 0, 0, ⟨#[]⟩, 0⟩) 27)
            simp only [recC] at hb
            generalize x46.alloc _ = x51 at *
            obtain ⟨gt, hgt⟩ : ∃ g, x46.heap.size = g := ⟨_, rfl⟩
            rw [hgt] at NW hb ⊢
            have hgt2 : w0.heap.size ≤ gt := by rw [← hgt]; exact hHeld.size
            rw [← hgt] at hb
            have N2_51 := Lib.hid (Whole.bel N2_46.out hb)
            have N1_51 := Lib.hid (Whole.bel N1_46.out hb)
            have L1_51 := Lib.hid (Whole.bel L1_46.out hb)
            have T_51 := Lib.hid NW
            refine hK.out _ _ ?_ (fun hHeld2 => ?_)
            · exact bel_after hHeld (Nat.le_refl _) hb
            clear hK K hHeld
            have hHeld := hHeld2; clear hHeld2
            try simp only [Act.put, List.setIfInBounds_toArray, List.set_cons_zero, List.set_cons_succ]
            clear hb
            clear NW hgt
            try clear N2_46
            try clear N1_46
            try clear L1_46
            refine wpAnyH_ready (rs := [3]) (by kernel_rfl) (by simp) ?_
            refine (AllReadyH.cons (o := ⟨some 10, _, _, _, _, _⟩) rfl (fun K hK => ?_) AllReadyH.nil)
            · go_simp
              refine (P2.out x51 _ _ L1_51.out N2_51.out).mono ?_
              rintro e x52 ⟨gL2_52, rfl, NW, hge, hb⟩
              have N2_52 := Lib.hid (Whole.bel N2_51.out hb)
              have N1_52 := Lib.hid (Whole.bel N1_51.out hb)
              have L1_52 := Lib.hid (Whole.bel L1_51.out hb)
              have T_52 := Lib.hid (RecAt.bel T_51.out hb)
              have L2_52 := Lib.hid NW
              refine hK.out _ _ ?_ (fun hHeld2 => ?_)
              · exact bel_after hHeld (Nat.le_refl _) hb
              clear hK K hHeld
              have hHeld := hHeld2; clear hHeld2
              try simp only [Act.put, List.setIfInBounds_toArray, List.set_cons_zero, List.set_cons_succ]
              clear hb
              clear NW hge
              try clear N2_51
              try clear N1_51
              try clear L1_51
              try clear T_51
              refine wpAnyH_take (i := 6) (oi := ⟨some 5, _, _, _, _, _⟩) (v := ?v6_53) rfl (by kernel_rfl) (by kernel_rfl) (by kernel_rfl) (fun _ _ _ h => h) (Or.inl ⟨by rfl, ?hy6_53⟩) (by assumption) ?rest6_53
              case hy6_53 => intro W hSW; go_simp; try rfl
              try simp only [Act.put, List.setIfInBounds_toArray, List.set_cons_zero, List.set_cons_succ]
              refine wpAnyH_ready (rs := [7]) (by kernel_rfl) (by simp) ?_
              refine (AllReadyH.cons (o := ⟨none, _, _, _, _, _⟩) rfl (fun K hK => ?_) AllReadyH.nil)
              · refine step_store_row _ rfl 27 (.tmp 6) (.tmp 11) rfl gt (recC ⟨me, da, cl, su, pa, si, na, of⟩) rfl rfl 27 (recC ⟨0, 0, 0, 0, 0, 0, ⟨#[]⟩, 0⟩) T_52.out (rec_size _) rfl (rec_one _) ?_
                have T2 : Hid (RecAt (x52.setRow gt (recC ⟨me, da, cl, su, pa, si, na, of⟩)) gt ⟨me, da, cl, su, pa, si, na, of⟩) := Lib.hid (Whole.setRow T_52.out _)
                have ne : gL2_52 ≠ gt := (L2_52.out).ne T_52.out (by decide)
                have L3 := Lib.hid (Whole.setRow_far L2_52.out (recC ⟨me, da, cl, su, pa, si, na, of⟩) ne)
                have hb2 : Below w0.heap.size w0 (x52.setRow gt (recC ⟨me, da, cl, su, pa, si, na, of⟩)) := below_setRow hHeld _ hgt2
                generalize x52.setRow gt _ = x54 at *
                refine hK.out _ _ ?_ (fun hHeld2 => ?_)
                · exact hb2
                clear hK K hHeld
                have hHeld := hHeld2; clear hHeld2
                try simp only [Act.put, List.setIfInBounds_toArray, List.set_cons_zero, List.set_cons_succ]
                try clear N2_52
                try clear N1_52
                try clear L1_52
                try clear T_52
                try clear L2_52
                refine wpAnyH_done (by kernel_rfl) ?_ _
                go_wp2_with fail
                go_meet
                case rel => exact ⟨gL2_52, gt, rfl, rfl, Lib.hid ⟨L3.out, T2.out, HR.out.bel hHeld, bel_after B0.out (Nat.le_refl _) hHeld, by have := Whole.lt HR.out; omega, Nat.le_trans B0.out.size hgt2⟩⟩
        · go_simp
          have NW := RecAt.new x45 ⟨0, 0, 0, 0, 0, 0, ⟨#[]⟩, 0⟩
          simp only [recC] at NW
          have hb := (Below.refl x45.heap.size x45).alloc (Nat.le_refl _) (.cells (recC ⟨0, 0, 0, 0, 0, 0, ⟨#[]⟩, 0⟩) 27)
          simp only [recC] at hb
          generalize x45.alloc _ = x55 at *
          obtain ⟨gt, hgt⟩ : ∃ g, x45.heap.size = g := ⟨_, rfl⟩
          rw [hgt] at NW hb ⊢
          have hgt2 : w0.heap.size ≤ gt := by rw [← hgt]; exact hHeld.size
          rw [← hgt] at hb
          have N2_55 := Lib.hid (Whole.bel N2_45.out hb)
          have N1_55 := Lib.hid (Whole.bel N1_45.out hb)
          have T_55 := Lib.hid NW
          refine hK.out _ _ ?_ (fun hHeld2 => ?_)
          · exact bel_after hHeld (Nat.le_refl _) hb
          clear hK K hHeld
          have hHeld := hHeld2; clear hHeld2
          try simp only [Act.put, List.setIfInBounds_toArray, List.set_cons_zero, List.set_cons_succ]
          clear hb
          clear NW hgt
          try clear N2_45
          try clear N1_45
          refine wpAnyH_ready (rs := [1]) (by kernel_rfl) (by simp) ?_
          refine (AllReadyH.cons (o := ⟨some 8, _, _, _, _, _⟩) rfl (fun K hK => ?_) AllReadyH.nil)
          · go_simp
            refine (P1.out x55 _ N1_55.out).mono ?_
            rintro e x56 ⟨gL1_56, rfl, NW, hge, hb⟩
            have N2_56 := Lib.hid (Whole.bel N2_55.out hb)
            have N1_56 := Lib.hid (Whole.bel N1_55.out hb)
            have T_56 := Lib.hid (RecAt.bel T_55.out hb)
            have L1_56 := Lib.hid NW
            refine hK.out _ _ ?_ (fun hHeld2 => ?_)
            · exact bel_after hHeld (Nat.le_refl _) hb
            clear hK K hHeld
            have hHeld := hHeld2; clear hHeld2
            try simp only [Act.put, List.setIfInBounds_toArray, List.set_cons_zero, List.set_cons_succ]
            clear hb
            clear NW hge
            try clear N2_55
            try clear N1_55
            try clear T_55
            refine wpAnyH_ready (rs := [3]) (by kernel_rfl) (by simp) ?_
            refine (AllReadyH.cons (o := ⟨some 10, _, _, _, _, _⟩) rfl (fun K hK => ?_) AllReadyH.nil)
            · go_simp
              refine (P2.out x56 _ _ L1_56.out N2_56.out).mono ?_
              rintro e x57 ⟨gL2_57, rfl, NW, hge, hb⟩
              have N2_57 := Lib.hid (Whole.bel N2_56.out hb)
              have N1_57 := Lib.hid (Whole.bel N1_56.out hb)
              have T_57 := Lib.hid (RecAt.bel T_56.out hb)
              have L1_57 := Lib.hid (Whole.bel L1_56.out hb)
              have L2_57 := Lib.hid NW
              refine hK.out _ _ ?_ (fun hHeld2 => ?_)
              · exact bel_after hHeld (Nat.le_refl _) hb
              clear hK K hHeld
              have hHeld := hHeld2; clear hHeld2
              try simp only [Act.put, List.setIfInBounds_toArray, List.set_cons_zero, List.set_cons_succ]
              clear hb
              clear NW hge
              try clear N2_56
              try clear N1_56
              try clear T_56
              try clear L1_56
              refine wpAnyH_take (i := 6) (oi := ⟨some 5, _, _, _, _, _⟩) (v := ?v6_58) rfl (by kernel_rfl) (by kernel_rfl) (by kernel_rfl) (fun _ _ _ h => h) (Or.inl ⟨by rfl, ?hy6_58⟩) (by assumption) ?rest6_58
              case hy6_58 => intro W hSW; go_simp; try rfl
              try simp only [Act.put, List.setIfInBounds_toArray, List.set_cons_zero, List.set_cons_succ]
              refine wpAnyH_ready (rs := [7]) (by kernel_rfl) (by simp) ?_
              refine (AllReadyH.cons (o := ⟨none, _, _, _, _, _⟩) rfl (fun K hK => ?_) AllReadyH.nil)
              · refine step_store_row _ rfl 27 (.tmp 6) (.tmp 11) rfl gt (recC ⟨me, da, cl, su, pa, si, na, of⟩) rfl rfl 27 (recC ⟨0, 0, 0, 0, 0, 0, ⟨#[]⟩, 0⟩) T_57.out (rec_size _) rfl (rec_one _) ?_
                have T2 : Hid (RecAt (x57.setRow gt (recC ⟨me, da, cl, su, pa, si, na, of⟩)) gt ⟨me, da, cl, su, pa, si, na, of⟩) := Lib.hid (Whole.setRow T_57.out _)
                have ne : gL2_57 ≠ gt := (L2_57.out).ne T_57.out (by decide)
                have L3 := Lib.hid (Whole.setRow_far L2_57.out (recC ⟨me, da, cl, su, pa, si, na, of⟩) ne)
                have hb2 : Below w0.heap.size w0 (x57.setRow gt (recC ⟨me, da, cl, su, pa, si, na, of⟩)) := below_setRow hHeld _ hgt2
                generalize x57.setRow gt _ = x59 at *
                refine hK.out _ _ ?_ (fun hHeld2 => ?_)
                · exact hb2
                clear hK K hHeld
                have hHeld := hHeld2; clear hHeld2
                try simp only [Act.put, List.setIfInBounds_toArray, List.set_cons_zero, List.set_cons_succ]
                try clear N2_57
                try clear N1_57
                try clear T_57
                try clear L1_57
                try clear L2_57
                refine wpAnyH_done (by kernel_rfl) ?_ _
                go_wp2_with fail
                go_meet
                case rel => exact ⟨gL2_57, gt, rfl, rfl, Lib.hid ⟨L3.out, T2.out, HR.out.bel hHeld, bel_after B0.out (Nat.le_refl _) hHeld, by have := Whole.lt HR.out; omega, Nat.le_trans B0.out.size hgt2⟩⟩
      · go_simp
        have NW := RecAt.new x44 ⟨0, 0, 0, 0, 0, 0, ⟨#[]⟩, 0⟩
        simp only [recC] at NW
        have hb := (Below.refl x44.heap.size x44).alloc (Nat.le_refl _) (.cells (recC ⟨0, 0, 0, 0, 0, 0, ⟨#[]⟩, 0⟩) 27)
        simp only [recC] at hb
        generalize x44.alloc _ = x60 at *
        obtain ⟨gt, hgt⟩ : ∃ g, x44.heap.size = g := ⟨_, rfl⟩
        rw [hgt] at NW hb ⊢
        have hgt2 : w0.heap.size ≤ gt := by rw [← hgt]; exact hHeld.size
        rw [← hgt] at hb
        have N2_60 := Lib.hid (Whole.bel N2_44.out hb)
        have T_60 := Lib.hid NW
        refine hK.out _ _ ?_ (fun hHeld2 => ?_)
        · exact bel_after hHeld (Nat.le_refl _) hb
        clear hK K hHeld
        have hHeld := hHeld2; clear hHeld2
        try simp only [Act.put, List.setIfInBounds_toArray, List.set_cons_zero, List.set_cons_succ]
        clear hb
        clear NW hgt
        try clear N2_44
        refine wpAnyH_ready (rs := [0]) (by kernel_rfl) (by simp) ?_
        refine (AllReadyH.cons (o := ⟨some 7, _, _, _, _, _⟩) rfl (fun K hK => ?_) AllReadyH.nil)
        · go_simp
          have NW : Whole (x60.alloc (.cells #[Value.int IntKind.i64 67324752] 3)) x60.heap.size 3 (iv [67324752]).toArray := Whole.new x60 3 _
          have hb : Below x60.heap.size x60 (x60.alloc (.cells #[Value.int IntKind.i64 67324752] 3)) := (Below.refl _ _).alloc (Nat.le_refl _) _
          generalize x60.alloc _ = x61 at *
          obtain ⟨gN1_61, hgN1_61⟩ : ∃ g, x60.heap.size = g := ⟨_, rfl⟩
          rw [hgN1_61] at NW hb ⊢
          rw [← hgN1_61] at hb
          have N2_61 := Lib.hid (Whole.bel N2_60.out hb)
          have T_61 := Lib.hid (RecAt.bel T_60.out hb)
          have N1_61 := Lib.hid NW
          refine hK.out _ _ ?_ (fun hHeld2 => ?_)
          · exact bel_after hHeld (Nat.le_refl _) hb
          clear hK K hHeld
          have hHeld := hHeld2; clear hHeld2
          try simp only [Act.put, List.setIfInBounds_toArray, List.set_cons_zero, List.set_cons_succ]
          clear hb
          clear NW
          try clear N2_60
          try clear T_60
          refine wpAnyH_ready (rs := [1]) (by kernel_rfl) (by simp) ?_
          refine (AllReadyH.cons (o := ⟨some 8, _, _, _, _, _⟩) rfl (fun K hK => ?_) AllReadyH.nil)
          · go_simp
            refine (P1.out x61 _ N1_61.out).mono ?_
            rintro e x62 ⟨gL1_62, rfl, NW, hge, hb⟩
            have N2_62 := Lib.hid (Whole.bel N2_61.out hb)
            have T_62 := Lib.hid (RecAt.bel T_61.out hb)
            have N1_62 := Lib.hid (Whole.bel N1_61.out hb)
            have L1_62 := Lib.hid NW
            refine hK.out _ _ ?_ (fun hHeld2 => ?_)
            · exact bel_after hHeld (Nat.le_refl _) hb
            clear hK K hHeld
            have hHeld := hHeld2; clear hHeld2
            try simp only [Act.put, List.setIfInBounds_toArray, List.set_cons_zero, List.set_cons_succ]
            clear hb
            clear NW hge
            try clear N2_61
            try clear T_61
            try clear N1_61
            refine wpAnyH_ready (rs := [3]) (by kernel_rfl) (by simp) ?_
            refine (AllReadyH.cons (o := ⟨some 10, _, _, _, _, _⟩) rfl (fun K hK => ?_) AllReadyH.nil)
            · go_simp
              refine (P2.out x62 _ _ L1_62.out N2_62.out).mono ?_
              rintro e x63 ⟨gL2_63, rfl, NW, hge, hb⟩
              have N2_63 := Lib.hid (Whole.bel N2_62.out hb)
              have T_63 := Lib.hid (RecAt.bel T_62.out hb)
              have N1_63 := Lib.hid (Whole.bel N1_62.out hb)
              have L1_63 := Lib.hid (Whole.bel L1_62.out hb)
              have L2_63 := Lib.hid NW
              refine hK.out _ _ ?_ (fun hHeld2 => ?_)
              · exact bel_after hHeld (Nat.le_refl _) hb
              clear hK K hHeld
              have hHeld := hHeld2; clear hHeld2
              try simp only [Act.put, List.setIfInBounds_toArray, List.set_cons_zero, List.set_cons_succ]
              clear hb
              clear NW hge
              try clear N2_62
              try clear T_62
              try clear N1_62
              try clear L1_62
              refine wpAnyH_take (i := 6) (oi := ⟨some 5, _, _, _, _, _⟩) (v := ?v6_64) rfl (by kernel_rfl) (by kernel_rfl) (by kernel_rfl) (fun _ _ _ h => h) (Or.inl ⟨by rfl, ?hy6_64⟩) (by assumption) ?rest6_64
              case hy6_64 => intro W hSW; go_simp; try rfl
              try simp only [Act.put, List.setIfInBounds_toArray, List.set_cons_zero, List.set_cons_succ]
              refine wpAnyH_ready (rs := [7]) (by kernel_rfl) (by simp) ?_
              refine (AllReadyH.cons (o := ⟨none, _, _, _, _, _⟩) rfl (fun K hK => ?_) AllReadyH.nil)
              · refine step_store_row _ rfl 27 (.tmp 6) (.tmp 11) rfl gt (recC ⟨me, da, cl, su, pa, si, na, of⟩) rfl rfl 27 (recC ⟨0, 0, 0, 0, 0, 0, ⟨#[]⟩, 0⟩) T_63.out (rec_size _) rfl (rec_one _) ?_
                have T2 : Hid (RecAt (x63.setRow gt (recC ⟨me, da, cl, su, pa, si, na, of⟩)) gt ⟨me, da, cl, su, pa, si, na, of⟩) := Lib.hid (Whole.setRow T_63.out _)
                have ne : gL2_63 ≠ gt := (L2_63.out).ne T_63.out (by decide)
                have L3 := Lib.hid (Whole.setRow_far L2_63.out (recC ⟨me, da, cl, su, pa, si, na, of⟩) ne)
                have hb2 : Below w0.heap.size w0 (x63.setRow gt (recC ⟨me, da, cl, su, pa, si, na, of⟩)) := below_setRow hHeld _ hgt2
                generalize x63.setRow gt _ = x65 at *
                refine hK.out _ _ ?_ (fun hHeld2 => ?_)
                · exact hb2
                clear hK K hHeld
                have hHeld := hHeld2; clear hHeld2
                try simp only [Act.put, List.setIfInBounds_toArray, List.set_cons_zero, List.set_cons_succ]
                try clear N2_63
                try clear T_63
                try clear N1_63
                try clear L1_63
                try clear L2_63
                refine wpAnyH_done (by kernel_rfl) ?_ _
                go_wp2_with fail
                go_meet
                case rel => exact ⟨gL2_63, gt, rfl, rfl, Lib.hid ⟨L3.out, T2.out, HR.out.bel hHeld, bel_after B0.out (Nat.le_refl _) hHeld, by have := Whole.lt HR.out; omega, Nat.le_trans B0.out.size hgt2⟩⟩
    · go_simp
      have NW := RecAt.new wd ⟨0, 0, 0, 0, 0, 0, ⟨#[]⟩, 0⟩
      simp only [recC] at NW
      have hb := (Below.refl wd.heap.size wd).alloc (Nat.le_refl _) (.cells (recC ⟨0, 0, 0, 0, 0, 0, ⟨#[]⟩, 0⟩) 27)
      simp only [recC] at hb
      generalize wd.alloc _ = x66 at *
      obtain ⟨gt, hgt⟩ : ∃ g, wd.heap.size = g := ⟨_, rfl⟩
      rw [hgt] at NW hb ⊢
      have hgt2 : w0.heap.size ≤ gt := by rw [← hgt]; exact hHeld.size
      rw [← hgt] at hb
      have T_66 := Lib.hid NW
      refine hK.out _ _ ?_ (fun hHeld2 => ?_)
      · exact bel_after hHeld (Nat.le_refl _) hb
      clear hK K hHeld
      have hHeld := hHeld2; clear hHeld2
      try simp only [Act.put, List.setIfInBounds_toArray, List.set_cons_zero, List.set_cons_succ]
      clear hb
      clear NW hgt
      refine wpAnyH_ready (rs := [0, 2]) (by kernel_rfl) (by simp) ?_
      refine (AllReadyH.cons (o := ⟨some 7, _, _, _, _, _⟩) rfl (fun K hK => ?_) (AllReadyH.cons (o := ⟨some 9, _, _, _, _, _⟩) rfl (fun K hK => ?_) AllReadyH.nil))
      · go_simp
        have NW : Whole (x66.alloc (.cells #[Value.int IntKind.i64 67324752] 3)) x66.heap.size 3 (iv [67324752]).toArray := Whole.new x66 3 _
        have hb : Below x66.heap.size x66 (x66.alloc (.cells #[Value.int IntKind.i64 67324752] 3)) := (Below.refl _ _).alloc (Nat.le_refl _) _
        generalize x66.alloc _ = x67 at *
        obtain ⟨gN1_67, hgN1_67⟩ : ∃ g, x66.heap.size = g := ⟨_, rfl⟩
        rw [hgN1_67] at NW hb ⊢
        rw [← hgN1_67] at hb
        have T_67 := Lib.hid (RecAt.bel T_66.out hb)
        have N1_67 := Lib.hid NW
        refine hK.out _ _ ?_ (fun hHeld2 => ?_)
        · exact bel_after hHeld (Nat.le_refl _) hb
        clear hK K hHeld
        have hHeld := hHeld2; clear hHeld2
        try simp only [Act.put, List.setIfInBounds_toArray, List.set_cons_zero, List.set_cons_succ]
        clear hb
        clear NW
        try clear T_66
        refine wpAnyH_ready (rs := [1, 2]) (by kernel_rfl) (by simp) ?_
        refine (AllReadyH.cons (o := ⟨some 8, _, _, _, _, _⟩) rfl (fun K hK => ?_) (AllReadyH.cons (o := ⟨some 9, _, _, _, _, _⟩) rfl (fun K hK => ?_) AllReadyH.nil))
        · go_simp
          refine (P1.out x67 _ N1_67.out).mono ?_
          rintro e x68 ⟨gL1_68, rfl, NW, hge, hb⟩
          have T_68 := Lib.hid (RecAt.bel T_67.out hb)
          have N1_68 := Lib.hid (Whole.bel N1_67.out hb)
          have L1_68 := Lib.hid NW
          refine hK.out _ _ ?_ (fun hHeld2 => ?_)
          · exact bel_after hHeld (Nat.le_refl _) hb
          clear hK K hHeld
          have hHeld := hHeld2; clear hHeld2
          try simp only [Act.put, List.setIfInBounds_toArray, List.set_cons_zero, List.set_cons_succ]
          clear hb
          clear NW hge
          try clear T_67
          try clear N1_67
          refine wpAnyH_ready (rs := [2]) (by kernel_rfl) (by simp) ?_
          refine (AllReadyH.cons (o := ⟨some 9, _, _, _, _, _⟩) rfl (fun K hK => ?_) AllReadyH.nil)
          · go_simp
            have NW : Whole (x68.alloc (.cells #[Value.int IntKind.i64 20] 3)) x68.heap.size 3 (iv [20]).toArray := Whole.new x68 3 _
            have hb : Below x68.heap.size x68 (x68.alloc (.cells #[Value.int IntKind.i64 20] 3)) := (Below.refl _ _).alloc (Nat.le_refl _) _
            generalize x68.alloc _ = x69 at *
            obtain ⟨gN2_69, hgN2_69⟩ : ∃ g, x68.heap.size = g := ⟨_, rfl⟩
            rw [hgN2_69] at NW hb ⊢
            rw [← hgN2_69] at hb
            have T_69 := Lib.hid (RecAt.bel T_68.out hb)
            have N1_69 := Lib.hid (Whole.bel N1_68.out hb)
            have L1_69 := Lib.hid (Whole.bel L1_68.out hb)
            have N2_69 := Lib.hid NW
            refine hK.out _ _ ?_ (fun hHeld2 => ?_)
            · exact bel_after hHeld (Nat.le_refl _) hb
            clear hK K hHeld
            have hHeld := hHeld2; clear hHeld2
            try simp only [Act.put, List.setIfInBounds_toArray, List.set_cons_zero, List.set_cons_succ]
            clear hb
            clear NW
            try clear T_68
            try clear N1_68
            try clear L1_68
            refine wpAnyH_ready (rs := [3]) (by kernel_rfl) (by simp) ?_
            refine (AllReadyH.cons (o := ⟨some 10, _, _, _, _, _⟩) rfl (fun K hK => ?_) AllReadyH.nil)
            · go_simp
              refine (P2.out x69 _ _ L1_69.out N2_69.out).mono ?_
              rintro e x70 ⟨gL2_70, rfl, NW, hge, hb⟩
              have T_70 := Lib.hid (RecAt.bel T_69.out hb)
              have N1_70 := Lib.hid (Whole.bel N1_69.out hb)
              have L1_70 := Lib.hid (Whole.bel L1_69.out hb)
              have N2_70 := Lib.hid (Whole.bel N2_69.out hb)
              have L2_70 := Lib.hid NW
              refine hK.out _ _ ?_ (fun hHeld2 => ?_)
              · exact bel_after hHeld (Nat.le_refl _) hb
              clear hK K hHeld
              have hHeld := hHeld2; clear hHeld2
              try simp only [Act.put, List.setIfInBounds_toArray, List.set_cons_zero, List.set_cons_succ]
              clear hb
              clear NW hge
              try clear T_69
              try clear N1_69
              try clear L1_69
              try clear N2_69
              refine wpAnyH_take (i := 6) (oi := ⟨some 5, _, _, _, _, _⟩) (v := ?v6_71) rfl (by kernel_rfl) (by kernel_rfl) (by kernel_rfl) (fun _ _ _ h => h) (Or.inl ⟨by rfl, ?hy6_71⟩) (by assumption) ?rest6_71
              case hy6_71 => intro W hSW; go_simp; try rfl
              try simp only [Act.put, List.setIfInBounds_toArray, List.set_cons_zero, List.set_cons_succ]
              refine wpAnyH_ready (rs := [7]) (by kernel_rfl) (by simp) ?_
              refine (AllReadyH.cons (o := ⟨none, _, _, _, _, _⟩) rfl (fun K hK => ?_) AllReadyH.nil)
              · refine step_store_row _ rfl 27 (.tmp 6) (.tmp 11) rfl gt (recC ⟨me, da, cl, su, pa, si, na, of⟩) rfl rfl 27 (recC ⟨0, 0, 0, 0, 0, 0, ⟨#[]⟩, 0⟩) T_70.out (rec_size _) rfl (rec_one _) ?_
                have T2 : Hid (RecAt (x70.setRow gt (recC ⟨me, da, cl, su, pa, si, na, of⟩)) gt ⟨me, da, cl, su, pa, si, na, of⟩) := Lib.hid (Whole.setRow T_70.out _)
                have ne : gL2_70 ≠ gt := (L2_70.out).ne T_70.out (by decide)
                have L3 := Lib.hid (Whole.setRow_far L2_70.out (recC ⟨me, da, cl, su, pa, si, na, of⟩) ne)
                have hb2 : Below w0.heap.size w0 (x70.setRow gt (recC ⟨me, da, cl, su, pa, si, na, of⟩)) := below_setRow hHeld _ hgt2
                generalize x70.setRow gt _ = x72 at *
                refine hK.out _ _ ?_ (fun hHeld2 => ?_)
                · exact hb2
                clear hK K hHeld
                have hHeld := hHeld2; clear hHeld2
                try simp only [Act.put, List.setIfInBounds_toArray, List.set_cons_zero, List.set_cons_succ]
                try clear T_70
                try clear N1_70
                try clear L1_70
                try clear N2_70
                try clear L2_70
                refine wpAnyH_done (by kernel_rfl) ?_ _
                go_wp2_with fail
                go_meet
                case rel => exact ⟨gL2_70, gt, rfl, rfl, Lib.hid ⟨L3.out, T2.out, HR.out.bel hHeld, bel_after B0.out (Nat.le_refl _) hHeld, by have := Whole.lt HR.out; omega, Nat.le_trans B0.out.size hgt2⟩⟩
        · go_simp
          have NW : Whole (x67.alloc (.cells #[Value.int IntKind.i64 20] 3)) x67.heap.size 3 (iv [20]).toArray := Whole.new x67 3 _
          have hb : Below x67.heap.size x67 (x67.alloc (.cells #[Value.int IntKind.i64 20] 3)) := (Below.refl _ _).alloc (Nat.le_refl _) _
          generalize x67.alloc _ = x73 at *
          obtain ⟨gN2_73, hgN2_73⟩ : ∃ g, x67.heap.size = g := ⟨_, rfl⟩
          rw [hgN2_73] at NW hb ⊢
          rw [← hgN2_73] at hb
          have T_73 := Lib.hid (RecAt.bel T_67.out hb)
          have N1_73 := Lib.hid (Whole.bel N1_67.out hb)
          have N2_73 := Lib.hid NW
          refine hK.out _ _ ?_ (fun hHeld2 => ?_)
          · exact bel_after hHeld (Nat.le_refl _) hb
          clear hK K hHeld
          have hHeld := hHeld2; clear hHeld2
          try simp only [Act.put, List.setIfInBounds_toArray, List.set_cons_zero, List.set_cons_succ]
          clear hb
          clear NW
          try clear T_67
          try clear N1_67
          refine wpAnyH_ready (rs := [1]) (by kernel_rfl) (by simp) ?_
          refine (AllReadyH.cons (o := ⟨some 8, _, _, _, _, _⟩) rfl (fun K hK => ?_) AllReadyH.nil)
          · go_simp
            refine (P1.out x73 _ N1_73.out).mono ?_
            rintro e x74 ⟨gL1_74, rfl, NW, hge, hb⟩
            have T_74 := Lib.hid (RecAt.bel T_73.out hb)
            have N1_74 := Lib.hid (Whole.bel N1_73.out hb)
            have N2_74 := Lib.hid (Whole.bel N2_73.out hb)
            have L1_74 := Lib.hid NW
            refine hK.out _ _ ?_ (fun hHeld2 => ?_)
            · exact bel_after hHeld (Nat.le_refl _) hb
            clear hK K hHeld
            have hHeld := hHeld2; clear hHeld2
            try simp only [Act.put, List.setIfInBounds_toArray, List.set_cons_zero, List.set_cons_succ]
            clear hb
            clear NW hge
            try clear T_73
            try clear N1_73
            try clear N2_73
            refine wpAnyH_ready (rs := [3]) (by kernel_rfl) (by simp) ?_
            refine (AllReadyH.cons (o := ⟨some 10, _, _, _, _, _⟩) rfl (fun K hK => ?_) AllReadyH.nil)
            · go_simp
              refine (P2.out x74 _ _ L1_74.out N2_74.out).mono ?_
              rintro e x75 ⟨gL2_75, rfl, NW, hge, hb⟩
              have T_75 := Lib.hid (RecAt.bel T_74.out hb)
              have N1_75 := Lib.hid (Whole.bel N1_74.out hb)
              have N2_75 := Lib.hid (Whole.bel N2_74.out hb)
              have L1_75 := Lib.hid (Whole.bel L1_74.out hb)
              have L2_75 := Lib.hid NW
              refine hK.out _ _ ?_ (fun hHeld2 => ?_)
              · exact bel_after hHeld (Nat.le_refl _) hb
              clear hK K hHeld
              have hHeld := hHeld2; clear hHeld2
              try simp only [Act.put, List.setIfInBounds_toArray, List.set_cons_zero, List.set_cons_succ]
              clear hb
              clear NW hge
              try clear T_74
              try clear N1_74
              try clear N2_74
              try clear L1_74
              refine wpAnyH_take (i := 6) (oi := ⟨some 5, _, _, _, _, _⟩) (v := ?v6_76) rfl (by kernel_rfl) (by kernel_rfl) (by kernel_rfl) (fun _ _ _ h => h) (Or.inl ⟨by rfl, ?hy6_76⟩) (by assumption) ?rest6_76
              case hy6_76 => intro W hSW; go_simp; try rfl
              try simp only [Act.put, List.setIfInBounds_toArray, List.set_cons_zero, List.set_cons_succ]
              refine wpAnyH_ready (rs := [7]) (by kernel_rfl) (by simp) ?_
              refine (AllReadyH.cons (o := ⟨none, _, _, _, _, _⟩) rfl (fun K hK => ?_) AllReadyH.nil)
              · refine step_store_row _ rfl 27 (.tmp 6) (.tmp 11) rfl gt (recC ⟨me, da, cl, su, pa, si, na, of⟩) rfl rfl 27 (recC ⟨0, 0, 0, 0, 0, 0, ⟨#[]⟩, 0⟩) T_75.out (rec_size _) rfl (rec_one _) ?_
                have T2 : Hid (RecAt (x75.setRow gt (recC ⟨me, da, cl, su, pa, si, na, of⟩)) gt ⟨me, da, cl, su, pa, si, na, of⟩) := Lib.hid (Whole.setRow T_75.out _)
                have ne : gL2_75 ≠ gt := (L2_75.out).ne T_75.out (by decide)
                have L3 := Lib.hid (Whole.setRow_far L2_75.out (recC ⟨me, da, cl, su, pa, si, na, of⟩) ne)
                have hb2 : Below w0.heap.size w0 (x75.setRow gt (recC ⟨me, da, cl, su, pa, si, na, of⟩)) := below_setRow hHeld _ hgt2
                generalize x75.setRow gt _ = x77 at *
                refine hK.out _ _ ?_ (fun hHeld2 => ?_)
                · exact hb2
                clear hK K hHeld
                have hHeld := hHeld2; clear hHeld2
                try simp only [Act.put, List.setIfInBounds_toArray, List.set_cons_zero, List.set_cons_succ]
                try clear T_75
                try clear N1_75
                try clear N2_75
                try clear L1_75
                try clear L2_75
                refine wpAnyH_done (by kernel_rfl) ?_ _
                go_wp2_with fail
                go_meet
                case rel => exact ⟨gL2_75, gt, rfl, rfl, Lib.hid ⟨L3.out, T2.out, HR.out.bel hHeld, bel_after B0.out (Nat.le_refl _) hHeld, by have := Whole.lt HR.out; omega, Nat.le_trans B0.out.size hgt2⟩⟩
      · go_simp
        have NW : Whole (x66.alloc (.cells #[Value.int IntKind.i64 20] 3)) x66.heap.size 3 (iv [20]).toArray := Whole.new x66 3 _
        have hb : Below x66.heap.size x66 (x66.alloc (.cells #[Value.int IntKind.i64 20] 3)) := (Below.refl _ _).alloc (Nat.le_refl _) _
        generalize x66.alloc _ = x78 at *
        obtain ⟨gN2_78, hgN2_78⟩ : ∃ g, x66.heap.size = g := ⟨_, rfl⟩
        rw [hgN2_78] at NW hb ⊢
        rw [← hgN2_78] at hb
        have T_78 := Lib.hid (RecAt.bel T_66.out hb)
        have N2_78 := Lib.hid NW
        refine hK.out _ _ ?_ (fun hHeld2 => ?_)
        · exact bel_after hHeld (Nat.le_refl _) hb
        clear hK K hHeld
        have hHeld := hHeld2; clear hHeld2
        try simp only [Act.put, List.setIfInBounds_toArray, List.set_cons_zero, List.set_cons_succ]
        clear hb
        clear NW
        try clear T_66
        refine wpAnyH_ready (rs := [0]) (by kernel_rfl) (by simp) ?_
        refine (AllReadyH.cons (o := ⟨some 7, _, _, _, _, _⟩) rfl (fun K hK => ?_) AllReadyH.nil)
        · go_simp
          have NW : Whole (x78.alloc (.cells #[Value.int IntKind.i64 67324752] 3)) x78.heap.size 3 (iv [67324752]).toArray := Whole.new x78 3 _
          have hb : Below x78.heap.size x78 (x78.alloc (.cells #[Value.int IntKind.i64 67324752] 3)) := (Below.refl _ _).alloc (Nat.le_refl _) _
          generalize x78.alloc _ = x79 at *
          obtain ⟨gN1_79, hgN1_79⟩ : ∃ g, x78.heap.size = g := ⟨_, rfl⟩
          rw [hgN1_79] at NW hb ⊢
          rw [← hgN1_79] at hb
          have T_79 := Lib.hid (RecAt.bel T_78.out hb)
          have N2_79 := Lib.hid (Whole.bel N2_78.out hb)
          have N1_79 := Lib.hid NW
          refine hK.out _ _ ?_ (fun hHeld2 => ?_)
          · exact bel_after hHeld (Nat.le_refl _) hb
          clear hK K hHeld
          have hHeld := hHeld2; clear hHeld2
          try simp only [Act.put, List.setIfInBounds_toArray, List.set_cons_zero, List.set_cons_succ]
          clear hb
          clear NW
          try clear T_78
          try clear N2_78
          refine wpAnyH_ready (rs := [1]) (by kernel_rfl) (by simp) ?_
          refine (AllReadyH.cons (o := ⟨some 8, _, _, _, _, _⟩) rfl (fun K hK => ?_) AllReadyH.nil)
          · go_simp
            refine (P1.out x79 _ N1_79.out).mono ?_
            rintro e x80 ⟨gL1_80, rfl, NW, hge, hb⟩
            have T_80 := Lib.hid (RecAt.bel T_79.out hb)
            have N2_80 := Lib.hid (Whole.bel N2_79.out hb)
            have N1_80 := Lib.hid (Whole.bel N1_79.out hb)
            have L1_80 := Lib.hid NW
            refine hK.out _ _ ?_ (fun hHeld2 => ?_)
            · exact bel_after hHeld (Nat.le_refl _) hb
            clear hK K hHeld
            have hHeld := hHeld2; clear hHeld2
            try simp only [Act.put, List.setIfInBounds_toArray, List.set_cons_zero, List.set_cons_succ]
            clear hb
            clear NW hge
            try clear T_79
            try clear N2_79
            try clear N1_79
            refine wpAnyH_ready (rs := [3]) (by kernel_rfl) (by simp) ?_
            refine (AllReadyH.cons (o := ⟨some 10, _, _, _, _, _⟩) rfl (fun K hK => ?_) AllReadyH.nil)
            · go_simp
              refine (P2.out x80 _ _ L1_80.out N2_80.out).mono ?_
              rintro e x81 ⟨gL2_81, rfl, NW, hge, hb⟩
              have T_81 := Lib.hid (RecAt.bel T_80.out hb)
              have N2_81 := Lib.hid (Whole.bel N2_80.out hb)
              have N1_81 := Lib.hid (Whole.bel N1_80.out hb)
              have L1_81 := Lib.hid (Whole.bel L1_80.out hb)
              have L2_81 := Lib.hid NW
              refine hK.out _ _ ?_ (fun hHeld2 => ?_)
              · exact bel_after hHeld (Nat.le_refl _) hb
              clear hK K hHeld
              have hHeld := hHeld2; clear hHeld2
              try simp only [Act.put, List.setIfInBounds_toArray, List.set_cons_zero, List.set_cons_succ]
              clear hb
              clear NW hge
              try clear T_80
              try clear N2_80
              try clear N1_80
              try clear L1_80
              refine wpAnyH_take (i := 6) (oi := ⟨some 5, _, _, _, _, _⟩) (v := ?v6_82) rfl (by kernel_rfl) (by kernel_rfl) (by kernel_rfl) (fun _ _ _ h => h) (Or.inl ⟨by rfl, ?hy6_82⟩) (by assumption) ?rest6_82
              case hy6_82 => intro W hSW; go_simp; try rfl
              try simp only [Act.put, List.setIfInBounds_toArray, List.set_cons_zero, List.set_cons_succ]
              refine wpAnyH_ready (rs := [7]) (by kernel_rfl) (by simp) ?_
              refine (AllReadyH.cons (o := ⟨none, _, _, _, _, _⟩) rfl (fun K hK => ?_) AllReadyH.nil)
              · refine step_store_row _ rfl 27 (.tmp 6) (.tmp 11) rfl gt (recC ⟨me, da, cl, su, pa, si, na, of⟩) rfl rfl 27 (recC ⟨0, 0, 0, 0, 0, 0, ⟨#[]⟩, 0⟩) T_81.out (rec_size _) rfl (rec_one _) ?_
                have T2 : Hid (RecAt (x81.setRow gt (recC ⟨me, da, cl, su, pa, si, na, of⟩)) gt ⟨me, da, cl, su, pa, si, na, of⟩) := Lib.hid (Whole.setRow T_81.out _)
                have ne : gL2_81 ≠ gt := (L2_81.out).ne T_81.out (by decide)
                have L3 := Lib.hid (Whole.setRow_far L2_81.out (recC ⟨me, da, cl, su, pa, si, na, of⟩) ne)
                have hb2 : Below w0.heap.size w0 (x81.setRow gt (recC ⟨me, da, cl, su, pa, si, na, of⟩)) := below_setRow hHeld _ hgt2
                generalize x81.setRow gt _ = x83 at *
                refine hK.out _ _ ?_ (fun hHeld2 => ?_)
                · exact hb2
                clear hK K hHeld
                have hHeld := hHeld2; clear hHeld2
                try simp only [Act.put, List.setIfInBounds_toArray, List.set_cons_zero, List.set_cons_succ]
                try clear T_81
                try clear N2_81
                try clear N1_81
                try clear L1_81
                try clear L2_81
                refine wpAnyH_done (by kernel_rfl) ?_ _
                go_wp2_with fail
                go_meet
                case rel => exact ⟨gL2_81, gt, rfl, rfl, Lib.hid ⟨L3.out, T2.out, HR.out.bel hHeld, bel_after B0.out (Nat.le_refl _) hHeld, by have := Whole.lt HR.out; omega, Nat.le_trans B0.out.size hgt2⟩⟩
  case rest =>
    obtain ⟨g6, gt, rfl, rfl, h⟩ := hcut
    obtain ⟨W2', T2', R2', B2', hgbt, hgt2⟩ := h.out
    have W2'' := Lib.hid W2'; have T2'' := Lib.hid T2'; have R2'' := Lib.hid R2'; have B2'' := Lib.hid B2'
    clear W2' T2' R2' B2' h HR B0 P1 P2
    cases be
    · have P3 : Hid (∀ W, Whole W g6 5 (bv L2).toArray → Calls Try.prog 28 #[.slice (some ⟨g6, 0, none⟩) 6 6, .agg #[.int .i64 me, .int .u16 da, .int .u16 cl, .int .u32 su, .int .i64 pa, .int .i64 si, .string na, .int .i64 of], .bool false] W (GivesN W 30 (L2 ++ sharedL (told ⟨me, da, cl, su, pa, si, na, of⟩ false) false))) := Lib.hid (fun W hW =>
        (putShared_any (some ⟨g6, 0, none⟩) 6 W.heap.size 6 L2 HN2.out (by omega) me da cl su pa si na of HRI.out false W (seen_blockN hW HN2.out) (Nat.le_refl _)).mono (fun e w' h => GivesN.of h rfl (by rw [List.length_append, sharedL_length, HN2.out])))
      generalize hL3 : L2 ++ sharedL (told ⟨me, da, cl, su, pa, si, na, of⟩ false) false = L3 at *
      have HN3 : Hid (L3.length = 30) := Lib.hid (by rw [← hL3, List.length_append, sharedL_length, HN2.out])
      clear hL3 HRI
      go_upto_region 4 with fail
      have W2 := W2''; have T1 := T2''; have R1 := R2''; have B1 := B2''
      clear W2'' T2'' R2'' B2''
      generalize wc = w1 at *
      refine wp_region_held_drew (S := (fun W => Below w1.heap.size w1 W)) (by kernel_rfl) (Below.refl _ _).drew (fun hHeld => ?_)
      have hHeld0 := hHeld
      have L2_0 := Lib.hid (Whole.bel W2.out hHeld0)
      generalize hwd : w1.drew = wd at *
      clear hwd hHeld0
      refine wpAnyH_take (i := 0) (oi := ⟨some 16, _, _, _, _, _⟩) (v := ?vb0_1) rfl (by kernel_rfl) (by kernel_rfl) (by kernel_rfl) (fun _ _ _ h => h) (Or.inl ⟨by rfl, ?hyb0_1⟩) (by assumption) ?restb0_1
      case hyb0_1 => intro W hSW; go_simp; try rfl
      try simp only [Act.put, List.setIfInBounds_toArray, List.set_cons_zero, List.set_cons_succ]
      refine wpAnyH_take (i := 1) (oi := ⟨some 17, _, _, _, _, _⟩) (v := .agg (recC ⟨me, da, cl, su, pa, si, na, of⟩)) rfl (by kernel_rfl) (by kernel_rfl) (by kernel_rfl) (fun _ _ _ h => h) (Or.inl ⟨by rfl, ?hyb1_2⟩) (by assumption) ?restb1_2
      case hyb1_2 => intro W hSW; exact RecAt.load W gt _ _ _ rfl rfl (T1.out.bel hSW)
      try simp only [Act.put, List.setIfInBounds_toArray, List.set_cons_zero, List.set_cons_succ]
      refine wpAnyH_take (i := 2) (oi := ⟨some 18, _, _, _, _, _⟩) (v := ?vb2_3) rfl (by kernel_rfl) (by kernel_rfl) (by kernel_rfl) (fun _ _ _ h => h) (Or.inl ⟨by rfl, ?hyb2_3⟩) (by assumption) ?restb2_3
      case hyb2_3 => intro W hSW; go_simp; try rfl
      try simp only [Act.put, List.setIfInBounds_toArray, List.set_cons_zero, List.set_cons_succ]
      refine wpAnyH_take (i := 4) (oi := ⟨some 20, _, _, _, _, _⟩) (v := ?vb4_4) rfl (by kernel_rfl) (by kernel_rfl) (by kernel_rfl) (fun _ _ _ h => h) (Or.inl ⟨by rfl, ?hyb4_4⟩) (by assumption) ?restb4_4
      case hyb4_4 => intro W hSW; go_simp; try rfl
      try simp only [Act.put, List.setIfInBounds_toArray, List.set_cons_zero, List.set_cons_succ]
      refine wpAnyH_take (i := 5) (oi := ⟨some 21, _, _, _, _, _⟩) (v := ?vb5_5) rfl (by kernel_rfl) (by kernel_rfl) (by kernel_rfl) (fun _ _ _ h => h) (Or.inl ⟨by rfl, ?hyb5_5⟩) (by assumption) ?restb5_5
      case hyb5_5 => intro W hSW; obtain ⟨c0, cd, ck, c3, c4, c5, c6, c7⟩ := RecAt.cells (R1.out.bel hSW); go_simp; try rfl
      try simp only [Act.put, List.setIfInBounds_toArray, List.set_cons_zero, List.set_cons_succ]
      refine wpAnyH_ready (rs := [3]) (by kernel_rfl) (by simp) ?_
      refine (AllReadyH.cons (o := ⟨some 19, _, _, _, _, _⟩) rfl (fun K hK => ?_) AllReadyH.nil)
      · go_simp
        refine (P3.out wd L2_0.out).mono ?_
        rintro e x6 ⟨g7, rfl, NW, hge, hb⟩
        have hge7 : w1.heap.size ≤ g7 := Nat.le_trans hHeld.size hge
        have L2_6 := Lib.hid (Whole.bel L2_0.out hb)
        have L3_6 := Lib.hid NW
        refine hK.out _ _ ?_ (fun hHeld2 => ?_)
        · exact bel_after hHeld (Nat.le_refl _) hb
        clear hK K hHeld
        have hHeld := hHeld2; clear hHeld2
        try simp only [Act.put, List.setIfInBounds_toArray, List.set_cons_zero, List.set_cons_succ]
        clear hb
        clear NW hge
        try clear L2_0
        refine wpAnyH_ready (rs := [6]) (by kernel_rfl) (by simp) ?_
        refine (AllReadyH.cons (o := ⟨some 22, _, _, _, _, _⟩) rfl (fun K hK => ?_) AllReadyH.nil)
        · refine step_append_str _ rfl (.tmp 19) (.tmp 21) rfl g7 30 L3 HN3.out rfl L3_6.out na rfl (by omega) ?_
          intro v8 x7 NW hb'
          have O_7 := Lib.hid NW
          refine hK.out _ _ ?_ (fun hHeld2 => ?_)
          · exact hHeld.trans (hb'.mono hge7)
          clear hK K hHeld
          have hHeld := hHeld2; clear hHeld2
          try simp only [Act.put, List.setIfInBounds_toArray, List.set_cons_zero, List.set_cons_succ]
          try clear L2_6
          try clear L3_6
          refine wpAnyH_take (i := 7) (oi := ⟨some 4, _, _, _, _, _⟩) (v := ?vb7_8) rfl (by kernel_rfl) (by kernel_rfl) (by kernel_rfl) (fun _ _ _ h => h) (Or.inl ⟨by rfl, ?hyb7_8⟩) (by assumption) ?restb7_8
          case hyb7_8 => intro W hSW; go_simp; try rfl
          try simp only [Act.put, List.setIfInBounds_toArray, List.set_cons_zero, List.set_cons_succ]
          refine wpAnyH_done (by kernel_rfl) ?_ _
          go_wp2_with fail
          go_ret
          refine ⟨v8, rfl, own_base O_7.out (Nat.le_trans B1.out.size hge7), bel_after B1.out (Nat.le_refl _) hHeld⟩
    · have P3 : Hid (∀ W, Whole W g6 5 (bv L2).toArray → Calls Try.prog 28 #[.slice (some ⟨g6, 0, none⟩) 6 6, .agg #[.int .i64 me, .int .u16 da, .int .u16 cl, .int .u32 0, .int .i64 0, .int .i64 0, .string na, .int .i64 of], .bool true] W (GivesN W 30 (L2 ++ sharedL (told ⟨me, da, cl, su, pa, si, na, of⟩ true) true))) := Lib.hid (fun W hW =>
        (putShared_any (some ⟨g6, 0, none⟩) 6 W.heap.size 6 L2 HN2.out (by omega) me da cl 0 0 0 na of ⟨HRI.out.da, HRI.out.cl, by simp⟩ true W (seen_blockN hW HN2.out) (Nat.le_refl _)).mono (fun e w' h => GivesN.of h rfl (by rw [List.length_append, sharedL_length, HN2.out])))
      generalize hL3 : L2 ++ sharedL (told ⟨me, da, cl, su, pa, si, na, of⟩ true) true = L3 at *
      have HN3 : Hid (L3.length = 30) := Lib.hid (by rw [← hL3, List.length_append, sharedL_length, HN2.out])
      clear hL3 HRI
      obtain ⟨c0, cd, ck, c3, c4, c5, c6, c7⟩ := RecAt.cells T2''.out
      have f3 := Whole.frozen T2''.out 3
      have f4 := Whole.frozen T2''.out 4
      have f5 := Whole.frozen T2''.out 5
      clear cd ck c6 c7
      go_upto_region 4 with fail
      clear c0 c3 c4 c5 f3 f4 f5
      have hne : g6 ≠ gt := W2''.out.ne T2''.out (by decide)
      have W2 := Lib.hid (((W2''.out.far (p := ⟨gt, 3, none⟩) hne (.int .u32 0)).far (p := ⟨gt, 4, none⟩) hne (.int .i64 0)).far (p := ⟨gt, 5, none⟩) hne (.int .i64 0))
      have T1 : Hid (RecAt (((wc.setCell ⟨gt, 3, none⟩ (.int .u32 0)).setCell ⟨gt, 4, none⟩ (.int .i64 0)).setCell ⟨gt, 5, none⟩ (.int .i64 0)) gt ⟨me, da, cl, 0, 0, 0, na, of⟩) := Lib.hid (by
        have h := ((Whole.put T2''.out 3 (.int .u32 0)).put 4 (.int .i64 0)).put 5 (.int .i64 0)
        simpa [recC, RecAt] using h)
      have R1 : Hid (RecAt (((wc.setCell ⟨gt, 3, none⟩ (.int .u32 0)).setCell ⟨gt, 4, none⟩ (.int .i64 0)).setCell ⟨gt, 5, none⟩ (.int .i64 0)) gb ⟨me, da, cl, su, pa, si, na, of⟩) := Lib.hid (((Whole.far R2''.out (p := ⟨gt, 3, none⟩) hgbt (.int .u32 0)).far (p := ⟨gt, 4, none⟩) hgbt (.int .i64 0)).far (p := ⟨gt, 5, none⟩) hgbt (.int .i64 0))
      have B1 := Lib.hid (((B2''.out.setCell (p := ⟨gt, 3, none⟩) hgt2 (.int .u32 0)).setCell (p := ⟨gt, 4, none⟩) hgt2 (.int .i64 0)).setCell (p := ⟨gt, 5, none⟩) hgt2 (.int .i64 0))
      clear W2'' T2'' R2'' B2''
      generalize ((wc.setCell _ _).setCell _ _).setCell _ _ = w1 at *
      refine wp_region_held_drew (S := (fun W => Below w1.heap.size w1 W)) (by kernel_rfl) (Below.refl _ _).drew (fun hHeld => ?_)
      have hHeld0 := hHeld
      have L2_0 := Lib.hid (Whole.bel W2.out hHeld0)
      generalize hwd : w1.drew = wd at *
      clear hwd hHeld0
      refine wpAnyH_take (i := 0) (oi := ⟨some 16, _, _, _, _, _⟩) (v := ?vc0_1) rfl (by kernel_rfl) (by kernel_rfl) (by kernel_rfl) (fun _ _ _ h => h) (Or.inl ⟨by rfl, ?hyc0_1⟩) (by assumption) ?restc0_1
      case hyc0_1 => intro W hSW; go_simp; try rfl
      try simp only [Act.put, List.setIfInBounds_toArray, List.set_cons_zero, List.set_cons_succ]
      refine wpAnyH_take (i := 1) (oi := ⟨some 17, _, _, _, _, _⟩) (v := .agg (recC ⟨me, da, cl, 0, 0, 0, na, of⟩)) rfl (by kernel_rfl) (by kernel_rfl) (by kernel_rfl) (fun _ _ _ h => h) (Or.inl ⟨by rfl, ?hyc1_2⟩) (by assumption) ?restc1_2
      case hyc1_2 => intro W hSW; exact RecAt.load W gt _ _ _ rfl rfl (T1.out.bel hSW)
      try simp only [Act.put, List.setIfInBounds_toArray, List.set_cons_zero, List.set_cons_succ]
      refine wpAnyH_take (i := 2) (oi := ⟨some 18, _, _, _, _, _⟩) (v := ?vc2_3) rfl (by kernel_rfl) (by kernel_rfl) (by kernel_rfl) (fun _ _ _ h => h) (Or.inl ⟨by rfl, ?hyc2_3⟩) (by assumption) ?restc2_3
      case hyc2_3 => intro W hSW; go_simp; try rfl
      try simp only [Act.put, List.setIfInBounds_toArray, List.set_cons_zero, List.set_cons_succ]
      refine wpAnyH_take (i := 4) (oi := ⟨some 20, _, _, _, _, _⟩) (v := ?vc4_4) rfl (by kernel_rfl) (by kernel_rfl) (by kernel_rfl) (fun _ _ _ h => h) (Or.inl ⟨by rfl, ?hyc4_4⟩) (by assumption) ?restc4_4
      case hyc4_4 => intro W hSW; go_simp; try rfl
      try simp only [Act.put, List.setIfInBounds_toArray, List.set_cons_zero, List.set_cons_succ]
      refine wpAnyH_take (i := 5) (oi := ⟨some 21, _, _, _, _, _⟩) (v := ?vc5_5) rfl (by kernel_rfl) (by kernel_rfl) (by kernel_rfl) (fun _ _ _ h => h) (Or.inl ⟨by rfl, ?hyc5_5⟩) (by assumption) ?restc5_5
      case hyc5_5 => intro W hSW; obtain ⟨c0, cd, ck, c3, c4, c5, c6, c7⟩ := RecAt.cells (R1.out.bel hSW); go_simp; try rfl
      try simp only [Act.put, List.setIfInBounds_toArray, List.set_cons_zero, List.set_cons_succ]
      refine wpAnyH_ready (rs := [3]) (by kernel_rfl) (by simp) ?_
      refine (AllReadyH.cons (o := ⟨some 19, _, _, _, _, _⟩) rfl (fun K hK => ?_) AllReadyH.nil)
      · go_simp
        refine (P3.out wd L2_0.out).mono ?_
        rintro e x6 ⟨g7, rfl, NW, hge, hb⟩
        have hge7 : w1.heap.size ≤ g7 := Nat.le_trans hHeld.size hge
        have L2_6 := Lib.hid (Whole.bel L2_0.out hb)
        have L3_6 := Lib.hid NW
        refine hK.out _ _ ?_ (fun hHeld2 => ?_)
        · exact bel_after hHeld (Nat.le_refl _) hb
        clear hK K hHeld
        have hHeld := hHeld2; clear hHeld2
        try simp only [Act.put, List.setIfInBounds_toArray, List.set_cons_zero, List.set_cons_succ]
        clear hb
        clear NW hge
        try clear L2_0
        refine wpAnyH_ready (rs := [6]) (by kernel_rfl) (by simp) ?_
        refine (AllReadyH.cons (o := ⟨some 22, _, _, _, _, _⟩) rfl (fun K hK => ?_) AllReadyH.nil)
        · refine step_append_str _ rfl (.tmp 19) (.tmp 21) rfl g7 30 L3 HN3.out rfl L3_6.out na rfl (by omega) ?_
          intro v8 x7 NW hb'
          have O_7 := Lib.hid NW
          refine hK.out _ _ ?_ (fun hHeld2 => ?_)
          · exact hHeld.trans (hb'.mono hge7)
          clear hK K hHeld
          have hHeld := hHeld2; clear hHeld2
          try simp only [Act.put, List.setIfInBounds_toArray, List.set_cons_zero, List.set_cons_succ]
          try clear L2_6
          try clear L3_6
          refine wpAnyH_take (i := 7) (oi := ⟨some 4, _, _, _, _, _⟩) (v := ?vc7_8) rfl (by kernel_rfl) (by kernel_rfl) (by kernel_rfl) (fun _ _ _ h => h) (Or.inl ⟨by rfl, ?hyc7_8⟩) (by assumption) ?restc7_8
          case hyc7_8 => intro W hSW; go_simp; try rfl
          try simp only [Act.put, List.setIfInBounds_toArray, List.set_cons_zero, List.set_cons_succ]
          refine wpAnyH_done (by kernel_rfl) ?_ _
          go_wp2_with fail
          go_ret
          refine ⟨v8, rfl, own_base O_7.out (Nat.le_trans B1.out.size hge7), bel_after B1.out (Nat.le_refl _) hHeld⟩
end Go.Proofs.Ytplilajgncfieaa
