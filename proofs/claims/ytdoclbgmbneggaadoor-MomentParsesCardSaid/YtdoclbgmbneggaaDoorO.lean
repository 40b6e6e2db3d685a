/-
  The program's Parse. Conditions: the table of powers of ten is as the library lays it.
-/
import Derived.Test.YtdoclbgmbneggaaDoorN
namespace Go.Proofs.YtdoclbgmbneggaaDoor
open Go.RowKit
set_option maxRecDepth 100000

theorem step_store_row {P : Program} (w : World) {ops : Array Oper} {o : Oper} {a : Act} {K : Act → World → Prop} {Q : Exit → Act → World → Prop} {E : Prop} (hgd : o.guard = none) (ty : TypeId) (x y : Operand) (ho : o.op = .store ty x y)
    (g : Nat) (cells : Array Value) (hx : a.eval x = .pointer (some ⟨g, 0, none⟩)) (hy : a.eval y = .agg cells)
    (t : TypeId) (old : Array Value) (hg : w.heap[g]? = some (.cells old t (0, 0))) (hi : (P.info? ty).map (·.size) = some cells.size)
    (hold : old.size = cells.size) (h1 : cells.all (·.oneCell') = true) (h : K (a.put o.dst undef) (w.setRow g cells)) :
    if Region.wanted o (yielded ops a.tmps) = true then Oper.wp P o a w K Q else E := by
  have hw : Region.wanted o (yielded ops a.tmps) = true := by simp [Region.wanted, hgd]
  rw [if_pos hw]
  exact wp_store_row ty x y ho g cells hx hy t old hg hi hold h1 h

theorem ba_toList {a b : ByteArray} : a.toList = b.toList ↔ a = b := by
  rw [Lib.toList_data, Lib.toList_data]
  exact ⟨ba_ext, fun h => by rw [h]⟩
theorem ba_eq {a b : ByteArray} : (a.toList == b.toList) = decide (a = b) := by
  by_cases h : a = b
  · subst h; simp
  · rw [decide_eq_false h]; exact beq_eq_false_iff_ne.2 (fun e => h (ba_toList.1 e))
theorem ba_ne {a b : ByteArray} : (a.toList != b.toList) = decide (a ≠ b) := by
  rw [bne, ba_eq]; simp

theorem parse_short (s : ByteArray) (hs : s.size ≠ 19) (w : World) : Calls Tryd.prog 15 #[.string s] w (Gives w (joV (0, 0, 2))) := by
  have hn : ((s.size : Int) != 19) = true := by simp only [bne_iff_ne, ne_eq]; omega
  have F24 := Lib.hid (Whole.new w 24 (mom 0 0))
  have B0 := Lib.hid ((Below.refl w.heap.size w).alloc (Nat.le_refl _) (.cells (mom 0 0) 24))
  simp only [mom00] at F24 B0
  go_enter Tryd.func15, Tryd.ntmps15
  go_upto_region 1 with fail
  generalize w.alloc _ = w0 at F24 B0 ⊢
  rw [← mom00] at F24
  go_wp2_with (refine wpList_store_row rfl 24 (.tmp 2) (.tmp 11) rfl w.heap.size (mom 0 0) rfl rfl 24 (mom 0 0) F24.out (mom_size 0 0) rfl (mom_one 0 0) ?_)
  have Z24 := Lib.hid (F24.out.setRow (mom 0 0))
  have Z := Lib.hid (below_setRow B0.out (mom 0 0) (Nat.le_refl _))
  refine bodyPost_ret (results_mom (p := 2) (u := 3) rfl _ _ w.heap.size 0 0 rfl Z24.out) rfl ?_
  exact ⟨rfl, Z.out⟩

set_option linter.unusedSimpArgs false in
set_option maxHeartbeats 2000000 in
theorem parse_long (s : ByteArray) (hs : s.size = 19) (w : World) (ht : Tab w) : Calls Tryd.prog 15 #[.string s] w (Gives w (joV (paM s))) := by
  obtain ⟨r, hr⟩ : ∃ r, joV (paM s) = r := ⟨_, rfl⟩
  rw [hr]
  unfold paM at hr
  rw [if_neg (by omega)] at hr
  have N1 := Lib.hid (fun W => number_any (s.extract 0 4) 4 (by rw [ByteArray.size_extract]; omega) (by omega) W)
  have N2 := Lib.hid (fun W => number_any (s.extract 5 7) 2 (by rw [ByteArray.size_extract]; omega) (by omega) W)
  have N3 := Lib.hid (fun W => number_any (s.extract 8 10) 2 (by rw [ByteArray.size_extract]; omega) (by omega) W)
  have N4 := Lib.hid (fun W => number_any (s.extract 11 13) 2 (by rw [ByteArray.size_extract]; omega) (by omega) W)
  have N5 := Lib.hid (fun W => number_any (s.extract 14 16) 2 (by rw [ByteArray.size_extract]; omega) (by omega) W)
  have N6 := Lib.hid (fun W => number_any (s.extract 17 19) 2 (by rw [ByteArray.size_extract]; omega) (by omega) W)
  rw [num4_eq s (by omega)] at N1
  rw [num2_eq s 5 (by omega)] at N2
  rw [num2_eq s 8 (by omega)] at N3
  rw [num2_eq s 11 (by omega)] at N4
  rw [num2_eq s 14 (by omega)] at N5
  rw [num2_eq s 17 (by omega)] at N6
  have JC := Lib.hid (fun W => join_any (num4 s) (num2 s 5) (num2 s 8) (num2 s 11) (num2 s 14) (num2 s 17) W)
  obtain ⟨a, b, e, hJ⟩ : ∃ a b e, paJ s = (a, b, e) := ⟨_, _, _, rfl⟩
  rw [show jo (num4 s) (num2 s 5) (num2 s 8) (num2 s 11) (num2 s 14) (num2 s 17) = (a, b, e) from hJ] at JC
  have HJ := Lib.hid (fun he => jo_ok (show jo _ _ _ _ _ _ = (a, b, e) from hJ) he)
  rw [hJ] at hr
  clear hJ
  have hr := Lib.hid hr
  simp only [joV] at JC
  generalize num4 s = n1 at *
  generalize num2 s 5 = n2 at *
  generalize num2 s 8 = n3 at *
  generalize num2 s 11 = n4 at *
  generalize num2 s 14 = n5 at *
  generalize num2 s 17 = n6 at *
  have HT := Lib.hid ht
  clear ht
  have F24 := Lib.hid (Whole.new w 24 (mom 0 0))
  have B0 := Lib.hid ((Below.refl w.heap.size w).alloc (Nat.le_refl _) (.cells (mom 0 0) 24))
  have hgz : Hid ((w.alloc (.cells (mom 0 0) 24)).heap.size = w.heap.size + 1) := Lib.hid (by simp)
  simp only [mom00] at F24 B0 hgz
  go_enter Tryd.func15, Tryd.ntmps15
  go_upto_region 1 with fail
  generalize w.alloc _ = w0 at F24 B0 hgz ⊢
  rw [← mom00] at F24
  go_upto_region 3 with fail
  go_cut [4, 5] (fun s4 s5 wx => ∃ gp : Nat, s4 = .pointer (some ⟨gp, 0, none⟩) ∧ s5 = .int .i64 e ∧ Hid (Whole wx gp 24 (mom a b) ∧ Whole wx w.heap.size 24 (mom 0 0) ∧ Below w.heap.size w wx ∧ w.heap.size ≠ gp ∧ w.heap.size ≤ gp))
  case first =>
    refine wp_region_held_drew (S := (fun W => Below w0.heap.size w0 W)) (by kernel_rfl) (Below.refl _ _).drew (fun hHeld => ?_)
    have hHeld0 := hHeld
    have Z_0 := Lib.hid (Whole.bel F24.out hHeld0)
    generalize hwd : w0.drew = wd at *
    clear hwd hHeld0
    refine wpAnyH_take (i := 0) (oi := ⟨some 13, _, _, _, _, _⟩) (v := ?v0_1) rfl (by kernel_rfl) (by kernel_rfl) (by kernel_rfl) (fun _ _ _ h => h) (Or.inl ⟨by rfl, ?hy0_1⟩) (by assumption) ?rest0_1
    case hy0_1 => intro W hSW; go_simp; try rfl
    try simp only [Act.put, List.setIfInBounds_toArray, List.set_cons_zero, List.set_cons_succ]
    refine wpAnyH_take (i := 1) (oi := ⟨some 14, _, _, _, _, _⟩) (v := ?v1_2) rfl (by kernel_rfl) (by kernel_rfl) (by kernel_rfl) (fun _ _ _ h => h) (Or.inl ⟨by rfl, ?hy1_2⟩) (by assumption) ?rest1_2
    case hy1_2 => intro W hSW; go_simp; try rfl
    try simp only [Act.put, List.setIfInBounds_toArray, List.set_cons_zero, List.set_cons_succ]
    refine wpAnyH_take (i := 3) (oi := ⟨some 16, _, _, _, _, _⟩) (v := ?v3_3) rfl (by kernel_rfl) (by kernel_rfl) (by kernel_rfl) (fun _ _ _ h => h) (Or.inl ⟨by rfl, ?hy3_3⟩) (by assumption) ?rest3_3
    case hy3_3 => intro W hSW; go_simp; try rfl
    try simp only [Act.put, List.setIfInBounds_toArray, List.set_cons_zero, List.set_cons_succ]
    refine wpAnyH_take (i := 4) (oi := ⟨some 17, _, _, _, _, _⟩) (v := ?v4_4) rfl (by kernel_rfl) (by kernel_rfl) (by kernel_rfl) (fun _ _ _ h => h) (Or.inl ⟨by rfl, ?hy4_4⟩) (by assumption) ?rest4_4
    case hy4_4 => intro W hSW; go_simp; try rfl
    try simp only [Act.put, List.setIfInBounds_toArray, List.set_cons_zero, List.set_cons_succ]
    refine wpAnyH_take (i := 6) (oi := ⟨some 19, _, _, _, _, _⟩) (v := ?v6_5) rfl (by kernel_rfl) (by kernel_rfl) (by kernel_rfl) (fun _ _ _ h => h) (Or.inl ⟨by rfl, ?hy6_5⟩) (by assumption) ?rest6_5
    case hy6_5 => intro W hSW; go_simp; try rfl
    try simp only [Act.put, List.setIfInBounds_toArray, List.set_cons_zero, List.set_cons_succ]
    refine wpAnyH_take (i := 7) (oi := ⟨some 20, _, _, _, _, _⟩) (v := ?v7_6) rfl (by kernel_rfl) (by kernel_rfl) (by kernel_rfl) (fun _ _ _ h => h) (Or.inl ⟨by rfl, ?hy7_6⟩) (by assumption) ?rest7_6
    case hy7_6 => intro W hSW; go_simp; try rfl
    try simp only [Act.put, List.setIfInBounds_toArray, List.set_cons_zero, List.set_cons_succ]
    refine wpAnyH_take (i := 9) (oi := ⟨some 22, _, _, _, _, _⟩) (v := ?v9_7) rfl (by kernel_rfl) (by kernel_rfl) (by kernel_rfl) (fun _ _ _ h => h) (Or.inl ⟨by rfl, ?hy9_7⟩) (by assumption) ?rest9_7
    case hy9_7 => intro W hSW; go_simp; try rfl
    try simp only [Act.put, List.setIfInBounds_toArray, List.set_cons_zero, List.set_cons_succ]
    refine wpAnyH_take (i := 10) (oi := ⟨some 23, _, _, _, _, _⟩) (v := ?v10_8) rfl (by kernel_rfl) (by kernel_rfl) (by kernel_rfl) (fun _ _ _ h => h) (Or.inl ⟨by rfl, ?hy10_8⟩) (by assumption) ?rest10_8
    case hy10_8 => intro W hSW; go_simp; try rfl
    try simp only [Act.put, List.setIfInBounds_toArray, List.set_cons_zero, List.set_cons_succ]
    refine wpAnyH_take (i := 12) (oi := ⟨some 25, _, _, _, _, _⟩) (v := ?v12_9) rfl (by kernel_rfl) (by kernel_rfl) (by kernel_rfl) (fun _ _ _ h => h) (Or.inl ⟨by rfl, ?hy12_9⟩) (by assumption) ?rest12_9
    case hy12_9 => intro W hSW; go_simp; try rfl
    try simp only [Act.put, List.setIfInBounds_toArray, List.set_cons_zero, List.set_cons_succ]
    refine wpAnyH_take (i := 13) (oi := ⟨some 26, _, _, _, _, _⟩) (v := ?v13_10) rfl (by kernel_rfl) (by kernel_rfl) (by kernel_rfl) (fun _ _ _ h => h) (Or.inl ⟨by rfl, ?hy13_10⟩) (by assumption) ?rest13_10
    case hy13_10 => intro W hSW; go_simp; try rfl
    try simp only [Act.put, List.setIfInBounds_toArray, List.set_cons_zero, List.set_cons_succ]
    refine wpAnyH_take (i := 15) (oi := ⟨some 28, _, _, _, _, _⟩) (v := ?v15_11) rfl (by kernel_rfl) (by kernel_rfl) (by kernel_rfl) (fun _ _ _ h => h) (Or.inl ⟨by rfl, ?hy15_11⟩) (by assumption) ?rest15_11
    case hy15_11 => intro W hSW; go_simp; try rfl
    try simp only [Act.put, List.setIfInBounds_toArray, List.set_cons_zero, List.set_cons_succ]
    refine wpAnyH_take (i := 16) (oi := ⟨some 29, _, _, _, _, _⟩) (v := ?v16_12) rfl (by kernel_rfl) (by kernel_rfl) (by kernel_rfl) (fun _ _ _ h => h) (Or.inl ⟨by rfl, ?hy16_12⟩) (by assumption) ?rest16_12
    case hy16_12 => intro W hSW; go_simp; try rfl
    try simp only [Act.put, List.setIfInBounds_toArray, List.set_cons_zero, List.set_cons_succ]
    refine wpAnyH_ready (rs := [2, 23]) (by kernel_rfl) (by simp) ?_
    refine (AllReadyH.cons (o := ⟨some 15, _, _, _, _, _⟩) rfl (fun K hK => ?_) (AllReadyH.cons (o := ⟨some 4, _, _, _, _, _⟩) rfl (fun K hK => ?_) AllReadyH.nil))
    · go_simp
      refine (N1.out _).mono ?_
      rintro e x13 ⟨rfl, hb⟩
      have Z_13 := Lib.hid (Whole.bel Z_0.out hb)
      refine hK.out _ _ ?_ (fun hHeld2 => ?_)
      · exact bel_after hHeld (Nat.le_refl _) hb
      clear hK K hHeld
      have hHeld := hHeld2; clear hHeld2
      try simp only [Act.put, List.setIfInBounds_toArray, List.set_cons_zero, List.set_cons_succ]
      clear hb
      try clear Z_0
      refine wpAnyH_ready (rs := [5, 23]) (by kernel_rfl) (by simp) ?_
      refine (AllReadyH.cons (o := ⟨some 18, _, _, _, _, _⟩) rfl (fun K hK => ?_) (AllReadyH.cons (o := ⟨some 4, _, _, _, _, _⟩) rfl (fun K hK => ?_) AllReadyH.nil))
      · go_simp
        refine (N2.out _).mono ?_
        rintro e x14 ⟨rfl, hb⟩
        have Z_14 := Lib.hid (Whole.bel Z_13.out hb)
        refine hK.out _ _ ?_ (fun hHeld2 => ?_)
        · exact bel_after hHeld (Nat.le_refl _) hb
        clear hK K hHeld
        have hHeld := hHeld2; clear hHeld2
        try simp only [Act.put, List.setIfInBounds_toArray, List.set_cons_zero, List.set_cons_succ]
        clear hb
        try clear Z_13
        refine wpAnyH_ready (rs := [8, 23]) (by kernel_rfl) (by simp) ?_
        refine (AllReadyH.cons (o := ⟨some 21, _, _, _, _, _⟩) rfl (fun K hK => ?_) (AllReadyH.cons (o := ⟨some 4, _, _, _, _, _⟩) rfl (fun K hK => ?_) AllReadyH.nil))
        · go_simp
          refine (N3.out _).mono ?_
          rintro e x15 ⟨rfl, hb⟩
          have Z_15 := Lib.hid (Whole.bel Z_14.out hb)
          refine hK.out _ _ ?_ (fun hHeld2 => ?_)
          · exact bel_after hHeld (Nat.le_refl _) hb
          clear hK K hHeld
          have hHeld := hHeld2; clear hHeld2
          try simp only [Act.put, List.setIfInBounds_toArray, List.set_cons_zero, List.set_cons_succ]
          clear hb
          try clear Z_14
          refine wpAnyH_ready (rs := [11, 23]) (by kernel_rfl) (by simp) ?_
          refine (AllReadyH.cons (o := ⟨some 24, _, _, _, _, _⟩) rfl (fun K hK => ?_) (AllReadyH.cons (o := ⟨some 4, _, _, _, _, _⟩) rfl (fun K hK => ?_) AllReadyH.nil))
          · go_simp
            refine (N4.out _).mono ?_
            rintro e x16 ⟨rfl, hb⟩
            have Z_16 := Lib.hid (Whole.bel Z_15.out hb)
            refine hK.out _ _ ?_ (fun hHeld2 => ?_)
            · exact bel_after hHeld (Nat.le_refl _) hb
            clear hK K hHeld
            have hHeld := hHeld2; clear hHeld2
            try simp only [Act.put, List.setIfInBounds_toArray, List.set_cons_zero, List.set_cons_succ]
            clear hb
            try clear Z_15
            refine wpAnyH_ready (rs := [14, 23]) (by kernel_rfl) (by simp) ?_
            refine (AllReadyH.cons (o := ⟨some 27, _, _, _, _, _⟩) rfl (fun K hK => ?_) (AllReadyH.cons (o := ⟨some 4, _, _, _, _, _⟩) rfl (fun K hK => ?_) AllReadyH.nil))
            · go_simp
              refine (N5.out _).mono ?_
              rintro e x17 ⟨rfl, hb⟩
              have Z_17 := Lib.hid (Whole.bel Z_16.out hb)
              refine hK.out _ _ ?_ (fun hHeld2 => ?_)
              · exact bel_after hHeld (Nat.le_refl _) hb
              clear hK K hHeld
              have hHeld := hHeld2; clear hHeld2
              try simp only [Act.put, List.setIfInBounds_toArray, List.set_cons_zero, List.set_cons_succ]
              clear hb
              try clear Z_16
              refine wpAnyH_ready (rs := [17, 23]) (by kernel_rfl) (by simp) ?_
              refine (AllReadyH.cons (o := ⟨some 30, _, _, _, _, _⟩) rfl (fun K hK => ?_) (AllReadyH.cons (o := ⟨some 4, _, _, _, _, _⟩) rfl (fun K hK => ?_) AllReadyH.nil))
              · go_simp
                refine (N6.out _).mono ?_
                rintro e x18 ⟨rfl, hb⟩
                have Z_18 := Lib.hid (Whole.bel Z_17.out hb)
                refine hK.out _ _ ?_ (fun hHeld2 => ?_)
                · exact bel_after hHeld (Nat.le_refl _) hb
                clear hK K hHeld
                have hHeld := hHeld2; clear hHeld2
                try simp only [Act.put, List.setIfInBounds_toArray, List.set_cons_zero, List.set_cons_succ]
                clear hb
                try clear Z_17
                refine wpAnyH_take (i := 18) (oi := ⟨some 31, _, _, _, _, _⟩) (v := ?v18_19) rfl (by kernel_rfl) (by kernel_rfl) (by kernel_rfl) (fun _ _ _ h => h) (Or.inl ⟨by rfl, ?hy18_19⟩) (by assumption) ?rest18_19
                case hy18_19 => intro W hSW; go_simp; try rfl
                try simp only [Act.put, List.setIfInBounds_toArray, List.set_cons_zero, List.set_cons_succ]
                refine wpAnyH_ready (rs := [19, 23]) (by kernel_rfl) (by simp) ?_
                refine (AllReadyH.cons (o := ⟨some 32, _, _, _, _, _⟩) rfl (fun K hK => ?_) (AllReadyH.cons (o := ⟨some 4, _, _, _, _, _⟩) rfl (fun K hK => ?_) AllReadyH.nil))
                · go_simp
                  refine (JC.out _).mono ?_
                  rintro e_ x20 ⟨rfl, hb⟩
                  have Z_20 := Lib.hid (Whole.bel Z_18.out hb)
                  refine hK.out _ _ ?_ (fun hHeld2 => ?_)
                  · exact bel_after hHeld (Nat.le_refl _) hb
                  clear hK K hHeld
                  have hHeld := hHeld2; clear hHeld2
                  try simp only [Act.put, List.setIfInBounds_toArray, List.set_cons_zero, List.set_cons_succ]
                  clear hb
                  try clear Z_18
                  refine wpAnyH_take (i := 20) (oi := ⟨some 12, _, _, _, _, _⟩) (v := ?v20_21) rfl (by kernel_rfl) (by kernel_rfl) (by kernel_rfl) (fun _ _ _ h => h) (Or.inl ⟨by rfl, ?hy20_21⟩) (by assumption) ?rest20_21
                  case hy20_21 => intro W hSW; go_simp; try rfl
                  try simp only [Act.put, List.setIfInBounds_toArray, List.set_cons_zero, List.set_cons_succ]
                  refine wpAnyH_take (i := 21) (oi := ⟨some 33, _, _, _, _, _⟩) (v := ?v21_22) rfl (by kernel_rfl) (by kernel_rfl) (by kernel_rfl) (fun _ _ _ h => h) (Or.inl ⟨by rfl, ?hy21_22⟩) (by assumption) ?rest21_22
                  case hy21_22 => intro W hSW; go_simp; try rfl
                  try simp only [Act.put, List.setIfInBounds_toArray, List.set_cons_zero, List.set_cons_succ]
                  refine wpAnyH_take (i := 22) (oi := ⟨some 34, _, _, _, _, _⟩) (v := ?v22_23) rfl (by kernel_rfl) (by kernel_rfl) (by kernel_rfl) (fun _ _ _ h => h) (Or.inl ⟨by rfl, ?hy22_23⟩) (by assumption) ?rest22_23
                  case hy22_23 => intro W hSW; go_simp; try rfl
                  try simp only [Act.put, List.setIfInBounds_toArray, List.set_cons_zero, List.set_cons_succ]
                  refine wpAnyH_ready (rs := [23]) (by kernel_rfl) (by simp) ?_
                  refine (AllReadyH.cons (o := ⟨some 4, _, _, _, _, _⟩) rfl (fun K hK => ?_) AllReadyH.nil)
                  · go_simp
                    have NW := Whole.new x20 24 (mom 0 0)
                    have hb := (Below.refl x20.heap.size x20).alloc (Nat.le_refl _) (.cells (mom 0 0) 24)
                    simp only [mom00] at NW hb
                    generalize x20.alloc _ = x24 at *
                    obtain ⟨gp, hgp⟩ : ∃ g, x20.heap.size = g := ⟨_, rfl⟩
                    rw [hgp] at NW hb ⊢
                    have hgp2 : w0.heap.size ≤ gp := by rw [← hgp]; exact hHeld.size
                    rw [← hgp] at hb
                    have Z_24 := Lib.hid (Whole.bel Z_20.out hb)
                    have P_24 := Lib.hid NW
                    refine hK.out _ _ ?_ (fun hHeld2 => ?_)
                    · exact bel_after hHeld (Nat.le_refl _) hb
                    clear hK K hHeld
                    have hHeld := hHeld2; clear hHeld2
                    try simp only [Act.put, List.setIfInBounds_toArray, List.set_cons_zero, List.set_cons_succ]
                    clear hb
                    clear NW hgp
                    try clear Z_20
                    refine wpAnyH_ready (rs := [24]) (by kernel_rfl) (by simp) ?_
                    refine (AllReadyH.cons (o := ⟨none, _, _, _, _, _⟩) rfl (fun K hK => ?_) AllReadyH.nil)
                    · refine step_store_row _ rfl 24 (.tmp 4) (.tmp 33) rfl gp (mom a b) rfl rfl 24 (mom 0 0) P_24.out (mom_size a b) rfl (mom_one a b) ?_
                      have P2 := Lib.hid (P_24.out.setRow (mom a b))
                      have ne : w.heap.size ≠ gp := by have := Z_24.out.lt; have := hgz.out; omega
                      have Z2 := Lib.hid (Z_24.out.setRow_far (mom a b) ne)
                      have hb2 : Below w0.heap.size w0 (x24.setRow gp (mom a b)) := below_setRow hHeld _ hgp2
                      generalize x24.setRow gp _ = x25 at *
                      have P_25 := Lib.hid P2.out
                      have Z_25 := Lib.hid Z2.out
                      refine hK.out _ _ ?_ (fun hHeld2 => ?_)
                      · exact hb2
                      clear hK K hHeld
                      have hHeld := hHeld2; clear hHeld2
                      try simp only [Act.put, List.setIfInBounds_toArray, List.set_cons_zero, List.set_cons_succ]
                      clear hb2
                      try clear Z_24
                      try clear P_24
                      refine wpAnyH_take (i := 25) (oi := ⟨some 5, _, _, _, _, _⟩) (v := ?v25_26) rfl (by kernel_rfl) (by kernel_rfl) (by kernel_rfl) (fun _ _ _ h => h) (Or.inl ⟨by rfl, ?hy25_26⟩) (by assumption) ?rest25_26
                      case hy25_26 => intro W hSW; go_simp; try rfl
                      try simp only [Act.put, List.setIfInBounds_toArray, List.set_cons_zero, List.set_cons_succ]
                      refine wpAnyH_done (by kernel_rfl) ?_ _
                      go_wp2_with fail
                      go_meet
                      case rel => exact ⟨gp, rfl, rfl, Lib.hid ⟨P_25.out, Z_25.out, bel_after B0.out (by have := hgz.out; omega) hHeld, ne, by have := hgz.out; omega⟩⟩
                · go_simp
                  have NW := Whole.new x18 24 (mom 0 0)
                  have hb := (Below.refl x18.heap.size x18).alloc (Nat.le_refl _) (.cells (mom 0 0) 24)
                  simp only [mom00] at NW hb
                  generalize x18.alloc _ = x27 at *
                  obtain ⟨gp, hgp⟩ : ∃ g, x18.heap.size = g := ⟨_, rfl⟩
                  rw [hgp] at NW hb ⊢
                  have hgp2 : w0.heap.size ≤ gp := by rw [← hgp]; exact hHeld.size
                  rw [← hgp] at hb
                  have Z_27 := Lib.hid (Whole.bel Z_18.out hb)
                  have P_27 := Lib.hid NW
                  refine hK.out _ _ ?_ (fun hHeld2 => ?_)
                  · exact bel_after hHeld (Nat.le_refl _) hb
                  clear hK K hHeld
                  have hHeld := hHeld2; clear hHeld2
                  try simp only [Act.put, List.setIfInBounds_toArray, List.set_cons_zero, List.set_cons_succ]
                  clear hb
                  clear NW hgp
                  try clear Z_18
                  refine wpAnyH_ready (rs := [19]) (by kernel_rfl) (by simp) ?_
                  refine (AllReadyH.cons (o := ⟨some 32, _, _, _, _, _⟩) rfl (fun K hK => ?_) AllReadyH.nil)
                  · go_simp
                    refine (JC.out _).mono ?_
                    rintro e_ x28 ⟨rfl, hb⟩
                    have Z_28 := Lib.hid (Whole.bel Z_27.out hb)
                    have P_28 := Lib.hid (Whole.bel P_27.out hb)
                    refine hK.out _ _ ?_ (fun hHeld2 => ?_)
                    · exact bel_after hHeld (Nat.le_refl _) hb
                    clear hK K hHeld
                    have hHeld := hHeld2; clear hHeld2
                    try simp only [Act.put, List.setIfInBounds_toArray, List.set_cons_zero, List.set_cons_succ]
                    clear hb
                    try clear Z_27
                    try clear P_27
                    refine wpAnyH_take (i := 20) (oi := ⟨some 12, _, _, _, _, _⟩) (v := ?v20_29) rfl (by kernel_rfl) (by kernel_rfl) (by kernel_rfl) (fun _ _ _ h => h) (Or.inl ⟨by rfl, ?hy20_29⟩) (by assumption) ?rest20_29
                    case hy20_29 => intro W hSW; go_simp; try rfl
                    try simp only [Act.put, List.setIfInBounds_toArray, List.set_cons_zero, List.set_cons_succ]
                    refine wpAnyH_take (i := 21) (oi := ⟨some 33, _, _, _, _, _⟩) (v := ?v21_30) rfl (by kernel_rfl) (by kernel_rfl) (by kernel_rfl) (fun _ _ _ h => h) (Or.inl ⟨by rfl, ?hy21_30⟩) (by assumption) ?rest21_30
                    case hy21_30 => intro W hSW; go_simp; try rfl
                    try simp only [Act.put, List.setIfInBounds_toArray, List.set_cons_zero, List.set_cons_succ]
                    refine wpAnyH_take (i := 22) (oi := ⟨some 34, _, _, _, _, _⟩) (v := ?v22_31) rfl (by kernel_rfl) (by kernel_rfl) (by kernel_rfl) (fun _ _ _ h => h) (Or.inl ⟨by rfl, ?hy22_31⟩) (by assumption) ?rest22_31
                    case hy22_31 => intro W hSW; go_simp; try rfl
                    try simp only [Act.put, List.setIfInBounds_toArray, List.set_cons_zero, List.set_cons_succ]
                    refine wpAnyH_ready (rs := [24]) (by kernel_rfl) (by simp) ?_
                    refine (AllReadyH.cons (o := ⟨none, _, _, _, _, _⟩) rfl (fun K hK => ?_) AllReadyH.nil)
                    · refine step_store_row _ rfl 24 (.tmp 4) (.tmp 33) rfl gp (mom a b) rfl rfl 24 (mom 0 0) P_28.out (mom_size a b) rfl (mom_one a b) ?_
                      have P2 := Lib.hid (P_28.out.setRow (mom a b))
                      have ne : w.heap.size ≠ gp := by have := Z_28.out.lt; have := hgz.out; omega
                      have Z2 := Lib.hid (Z_28.out.setRow_far (mom a b) ne)
                      have hb2 : Below w0.heap.size w0 (x28.setRow gp (mom a b)) := below_setRow hHeld _ hgp2
                      generalize x28.setRow gp _ = x32 at *
                      have P_32 := Lib.hid P2.out
                      have Z_32 := Lib.hid Z2.out
                      refine hK.out _ _ ?_ (fun hHeld2 => ?_)
                      · exact hb2
                      clear hK K hHeld
                      have hHeld := hHeld2; clear hHeld2
                      try simp only [Act.put, List.setIfInBounds_toArray, List.set_cons_zero, List.set_cons_succ]
                      clear hb2
                      try clear Z_28
                      try clear P_28
                      refine wpAnyH_take (i := 25) (oi := ⟨some 5, _, _, _, _, _⟩) (v := ?v25_33) rfl (by kernel_rfl) (by kernel_rfl) (by kernel_rfl) (fun _ _ _ h => h) (Or.inl ⟨by rfl, ?hy25_33⟩) (by assumption) ?rest25_33
                      case hy25_33 => intro W hSW; go_simp; try rfl
                      try simp only [Act.put, List.setIfInBounds_toArray, List.set_cons_zero, List.set_cons_succ]
                      refine wpAnyH_done (by kernel_rfl) ?_ _
                      go_wp2_with fail
                      go_meet
                      case rel => exact ⟨gp, rfl, rfl, Lib.hid ⟨P_32.out, Z_32.out, bel_after B0.out (by have := hgz.out; omega) hHeld, ne, by have := hgz.out; omega⟩⟩
              · go_simp
                have NW := Whole.new x17 24 (mom 0 0)
                have hb := (Below.refl x17.heap.size x17).alloc (Nat.le_refl _) (.cells (mom 0 0) 24)
                simp only [mom00] at NW hb
                generalize x17.alloc _ = x34 at *
                obtain ⟨gp, hgp⟩ : ∃ g, x17.heap.size = g := ⟨_, rfl⟩
                rw [hgp] at NW hb ⊢
                have hgp2 : w0.heap.size ≤ gp := by rw [← hgp]; exact hHeld.size
                rw [← hgp] at hb
                have Z_34 := Lib.hid (Whole.bel Z_17.out hb)
                have P_34 := Lib.hid NW
                refine hK.out _ _ ?_ (fun hHeld2 => ?_)
                · exact bel_after hHeld (Nat.le_refl _) hb
                clear hK K hHeld
                have hHeld := hHeld2; clear hHeld2
                try simp only [Act.put, List.setIfInBounds_toArray, List.set_cons_zero, List.set_cons_succ]
                clear hb
                clear NW hgp
                try clear Z_17
                refine wpAnyH_ready (rs := [17]) (by kernel_rfl) (by simp) ?_
                refine (AllReadyH.cons (o := ⟨some 30, _, _, _, _, _⟩) rfl (fun K hK => ?_) AllReadyH.nil)
                · go_simp
                  refine (N6.out _).mono ?_
                  rintro e x35 ⟨rfl, hb⟩
                  have Z_35 := Lib.hid (Whole.bel Z_34.out hb)
                  have P_35 := Lib.hid (Whole.bel P_34.out hb)
                  refine hK.out _ _ ?_ (fun hHeld2 => ?_)
                  · exact bel_after hHeld (Nat.le_refl _) hb
                  clear hK K hHeld
                  have hHeld := hHeld2; clear hHeld2
                  try simp only [Act.put, List.setIfInBounds_toArray, List.set_cons_zero, List.set_cons_succ]
                  clear hb
                  try clear Z_34
                  try clear P_34
                  refine wpAnyH_take (i := 18) (oi := ⟨some 31, _, _, _, _, _⟩) (v := ?v18_36) rfl (by kernel_rfl) (by kernel_rfl) (by kernel_rfl) (fun _ _ _ h => h) (Or.inl ⟨by rfl, ?hy18_36⟩) (by assumption) ?rest18_36
                  case hy18_36 => intro W hSW; go_simp; try rfl
                  try simp only [Act.put, List.setIfInBounds_toArray, List.set_cons_zero, List.set_cons_succ]
                  refine wpAnyH_ready (rs := [19]) (by kernel_rfl) (by simp) ?_
                  refine (AllReadyH.cons (o := ⟨some 32, _, _, _, _, _⟩) rfl (fun K hK => ?_) AllReadyH.nil)
                  · go_simp
                    refine (JC.out _).mono ?_
                    rintro e_ x37 ⟨rfl, hb⟩
                    have Z_37 := Lib.hid (Whole.bel Z_35.out hb)
                    have P_37 := Lib.hid (Whole.bel P_35.out hb)
                    refine hK.out _ _ ?_ (fun hHeld2 => ?_)
                    · exact bel_after hHeld (Nat.le_refl _) hb
                    clear hK K hHeld
                    have hHeld := hHeld2; clear hHeld2
                    try simp only [Act.put, List.setIfInBounds_toArray, List.set_cons_zero, List.set_cons_succ]
                    clear hb
                    try clear Z_35
                    try clear P_35
                    refine wpAnyH_take (i := 20) (oi := ⟨some 12, _, _, _, _, _⟩) (v := ?v20_38) rfl (by kernel_rfl) (by kernel_rfl) (by kernel_rfl) (fun _ _ _ h => h) (Or.inl ⟨by rfl, ?hy20_38⟩) (by assumption) ?rest20_38
                    case hy20_38 => intro W hSW; go_simp; try rfl
                    try simp only [Act.put, List.setIfInBounds_toArray, List.set_cons_zero, List.set_cons_succ]
                    refine wpAnyH_take (i := 21) (oi := ⟨some 33, _, _, _, _, _⟩) (v := ?v21_39) rfl (by kernel_rfl) (by kernel_rfl) (by kernel_rfl) (fun _ _ _ h => h) (Or.inl ⟨by rfl, ?hy21_39⟩) (by assumption) ?rest21_39
                    case hy21_39 => intro W hSW; go_simp; try rfl
                    try simp only [Act.put, List.setIfInBounds_toArray, List.set_cons_zero, List.set_cons_succ]
                    refine wpAnyH_take (i := 22) (oi := ⟨some 34, _, _, _, _, _⟩) (v := ?v22_40) rfl (by kernel_rfl) (by kernel_rfl) (by kernel_rfl) (fun _ _ _ h => h) (Or.inl ⟨by rfl, ?hy22_40⟩) (by assumption) ?rest22_40
                    case hy22_40 => intro W hSW; go_simp; try rfl
                    try simp only [Act.put, List.setIfInBounds_toArray, List.set_cons_zero, List.set_cons_succ]
                    refine wpAnyH_ready (rs := [24]) (by kernel_rfl) (by simp) ?_
                    refine (AllReadyH.cons (o := ⟨none, _, _, _, _, _⟩) rfl (fun K hK => ?_) AllReadyH.nil)
                    · refine step_store_row _ rfl 24 (.tmp 4) (.tmp 33) rfl gp (mom a b) rfl rfl 24 (mom 0 0) P_37.out (mom_size a b) rfl (mom_one a b) ?_
                      have P2 := Lib.hid (P_37.out.setRow (mom a b))
                      have ne : w.heap.size ≠ gp := by have := Z_37.out.lt; have := hgz.out; omega
                      have Z2 := Lib.hid (Z_37.out.setRow_far (mom a b) ne)
                      have hb2 : Below w0.heap.size w0 (x37.setRow gp (mom a b)) := below_setRow hHeld _ hgp2
                      generalize x37.setRow gp _ = x41 at *
                      have P_41 := Lib.hid P2.out
                      have Z_41 := Lib.hid Z2.out
                      refine hK.out _ _ ?_ (fun hHeld2 => ?_)
                      · exact hb2
                      clear hK K hHeld
                      have hHeld := hHeld2; clear hHeld2
                      try simp only [Act.put, List.setIfInBounds_toArray, List.set_cons_zero, List.set_cons_succ]
                      clear hb2
                      try clear Z_37
                      try clear P_37
                      refine wpAnyH_take (i := 25) (oi := ⟨some 5, _, _, _, _, _⟩) (v := ?v25_42) rfl (by kernel_rfl) (by kernel_rfl) (by kernel_rfl) (fun _ _ _ h => h) (Or.inl ⟨by rfl, ?hy25_42⟩) (by assumption) ?rest25_42
                      case hy25_42 => intro W hSW; go_simp; try rfl
                      try simp only [Act.put, List.setIfInBounds_toArray, List.set_cons_zero, List.set_cons_succ]
                      refine wpAnyH_done (by kernel_rfl) ?_ _
                      go_wp2_with fail
                      go_meet
                      case rel => exact ⟨gp, rfl, rfl, Lib.hid ⟨P_41.out, Z_41.out, bel_after B0.out (by have := hgz.out; omega) hHeld, ne, by have := hgz.out; omega⟩⟩
            · go_simp
              have NW := Whole.new x16 24 (mom 0 0)
              have hb := (Below.refl x16.heap.size x16).alloc (Nat.le_refl _) (.cells (mom 0 0) 24)
              simp only [mom00] at NW hb
              generalize x16.alloc _ = x43 at *
              obtain ⟨gp, hgp⟩ : ∃ g, x16.heap.size = g := ⟨_, rfl⟩
              rw [hgp] at NW hb ⊢
              have hgp2 : w0.heap.size ≤ gp := by rw [← hgp]; exact hHeld.size
              rw [← hgp] at hb
              have Z_43 := Lib.hid (Whole.bel Z_16.out hb)
              have P_43 := Lib.hid NW
              refine hK.out _ _ ?_ (fun hHeld2 => ?_)
              · exact bel_after hHeld (Nat.le_refl _) hb
              clear hK K hHeld
              have hHeld := hHeld2; clear hHeld2
              try simp only [Act.put, List.setIfInBounds_toArray, List.set_cons_zero, List.set_cons_succ]
              clear hb
              clear NW hgp
              try clear Z_16
              refine wpAnyH_ready (rs := [14]) (by kernel_rfl) (by simp) ?_
              refine (AllReadyH.cons (o := ⟨some 27, _, _, _, _, _⟩) rfl (fun K hK => ?_) AllReadyH.nil)
              · go_simp
                refine (N5.out _).mono ?_
                rintro e x44 ⟨rfl, hb⟩
                have Z_44 := Lib.hid (Whole.bel Z_43.out hb)
                have P_44 := Lib.hid (Whole.bel P_43.out hb)
                refine hK.out _ _ ?_ (fun hHeld2 => ?_)
                · exact bel_after hHeld (Nat.le_refl _) hb
                clear hK K hHeld
                have hHeld := hHeld2; clear hHeld2
                try simp only [Act.put, List.setIfInBounds_toArray, List.set_cons_zero, List.set_cons_succ]
                clear hb
                try clear Z_43
                try clear P_43
                refine wpAnyH_ready (rs := [17]) (by kernel_rfl) (by simp) ?_
                refine (AllReadyH.cons (o := ⟨some 30, _, _, _, _, _⟩) rfl (fun K hK => ?_) AllReadyH.nil)
                · go_simp
                  refine (N6.out _).mono ?_
                  rintro e x45 ⟨rfl, hb⟩
                  have Z_45 := Lib.hid (Whole.bel Z_44.out hb)
                  have P_45 := Lib.hid (Whole.bel P_44.out hb)
                  refine hK.out _ _ ?_ (fun hHeld2 => ?_)
                  · exact bel_after hHeld (Nat.le_refl _) hb
                  clear hK K hHeld
                  have hHeld := hHeld2; clear hHeld2
                  try simp only [Act.put, List.setIfInBounds_toArray, List.set_cons_zero, List.set_cons_succ]
                  clear hb
                  try clear Z_44
                  try clear P_44
                  refine wpAnyH_take (i := 18) (oi := ⟨some 31, _, _, _, _, _⟩) (v := ?v18_46) rfl (by kernel_rfl) (by kernel_rfl) (by kernel_rfl) (fun _ _ _ h => h) (Or.inl ⟨by rfl, ?hy18_46⟩) (by assumption) ?rest18_46
                  case hy18_46 => intro W hSW; go_simp; try rfl
                  try simp only [Act.put, List.setIfInBounds_toArray, List.set_cons_zero, List.set_cons_succ]
                  refine wpAnyH_ready (rs := [19]) (by kernel_rfl) (by simp) ?_
                  refine (AllReadyH.cons (o := ⟨some 32, _, _, _, _, _⟩) rfl (fun K hK => ?_) AllReadyH.nil)
                  · go_simp
                    refine (JC.out _).mono ?_
                    rintro e_ x47 ⟨rfl, hb⟩
                    have Z_47 := Lib.hid (Whole.bel Z_45.out hb)
                    have P_47 := Lib.hid (Whole.bel P_45.out hb)
                    refine hK.out _ _ ?_ (fun hHeld2 => ?_)
                    · exact bel_after hHeld (Nat.le_refl _) hb
                    clear hK K hHeld
                    have hHeld := hHeld2; clear hHeld2
                    try simp only [Act.put, List.setIfInBounds_toArray, List.set_cons_zero, List.set_cons_succ]
                    clear hb
                    try clear Z_45
                    try clear P_45
                    refine wpAnyH_take (i := 20) (oi := ⟨some 12, _, _, _, _, _⟩) (v := ?v20_48) rfl (by kernel_rfl) (by kernel_rfl) (by kernel_rfl) (fun _ _ _ h => h) (Or.inl ⟨by rfl, ?hy20_48⟩) (by assumption) ?rest20_48
                    case hy20_48 => intro W hSW; go_simp; try rfl
                    try simp only [Act.put, List.setIfInBounds_toArray, List.set_cons_zero, List.set_cons_succ]
                    refine wpAnyH_take (i := 21) (oi := ⟨some 33, _, _, _, _, _⟩) (v := ?v21_49) rfl (by kernel_rfl) (by kernel_rfl) (by kernel_rfl) (fun _ _ _ h => h) (Or.inl ⟨by rfl, ?hy21_49⟩) (by assumption) ?rest21_49
                    case hy21_49 => intro W hSW; go_simp; try rfl
                    try simp only [Act.put, List.setIfInBounds_toArray, List.set_cons_zero, List.set_cons_succ]
                    refine wpAnyH_take (i := 22) (oi := ⟨some 34, _, _, _, _, _⟩) (v := ?v22_50) rfl (by kernel_rfl) (by kernel_rfl) (by kernel_rfl) (fun _ _ _ h => h) (Or.inl ⟨by rfl, ?hy22_50⟩) (by assumption) ?rest22_50
                    case hy22_50 => intro W hSW; go_simp; try rfl
                    try simp only [Act.put, List.setIfInBounds_toArray, List.set_cons_zero, List.set_cons_succ]
                    refine wpAnyH_ready (rs := [24]) (by kernel_rfl) (by simp) ?_
                    refine (AllReadyH.cons (o := ⟨none, _, _, _, _, _⟩) rfl (fun K hK => ?_) AllReadyH.nil)
                    · refine step_store_row _ rfl 24 (.tmp 4) (.tmp 33) rfl gp (mom a b) rfl rfl 24 (mom 0 0) P_47.out (mom_size a b) rfl (mom_one a b) ?_
                      have P2 := Lib.hid (P_47.out.setRow (mom a b))
                      have ne : w.heap.size ≠ gp := by have := Z_47.out.lt; have := hgz.out; omega
                      have Z2 := Lib.hid (Z_47.out.setRow_far (mom a b) ne)
                      have hb2 : Below w0.heap.size w0 (x47.setRow gp (mom a b)) := below_setRow hHeld _ hgp2
                      generalize x47.setRow gp _ = x51 at *
                      have P_51 := Lib.hid P2.out
                      have Z_51 := Lib.hid Z2.out
                      refine hK.out _ _ ?_ (fun hHeld2 => ?_)
                      · exact hb2
                      clear hK K hHeld
                      have hHeld := hHeld2; clear hHeld2
                      try simp only [Act.put, List.setIfInBounds_toArray, List.set_cons_zero, List.set_cons_succ]
                      clear hb2
                      try clear Z_47
                      try clear P_47
                      refine wpAnyH_take (i := 25) (oi := ⟨some 5, _, _, _, _, _⟩) (v := ?v25_52) rfl (by kernel_rfl) (by kernel_rfl) (by kernel_rfl) (fun _ _ _ h => h) (Or.inl ⟨by rfl, ?hy25_52⟩) (by assumption) ?rest25_52
                      case hy25_52 => intro W hSW; go_simp; try rfl
                      try simp only [Act.put, List.setIfInBounds_toArray, List.set_cons_zero, List.set_cons_succ]
                      refine wpAnyH_done (by kernel_rfl) ?_ _
                      go_wp2_with fail
                      go_meet
                      case rel => exact ⟨gp, rfl, rfl, Lib.hid ⟨P_51.out, Z_51.out, bel_after B0.out (by have := hgz.out; omega) hHeld, ne, by have := hgz.out; omega⟩⟩
          · go_simp
            have NW := Whole.new x15 24 (mom 0 0)
            have hb := (Below.refl x15.heap.size x15).alloc (Nat.le_refl _) (.cells (mom 0 0) 24)
            simp only [mom00] at NW hb
            generalize x15.alloc _ = x53 at *
            obtain ⟨gp, hgp⟩ : ∃ g, x15.heap.size = g := ⟨_, rfl⟩
            rw [hgp] at NW hb ⊢
            have hgp2 : w0.heap.size ≤ gp := by rw [← hgp]; exact hHeld.size
            rw [← hgp] at hb
            have Z_53 := Lib.hid (Whole.bel Z_15.out hb)
            have P_53 := Lib.hid NW
            refine hK.out _ _ ?_ (fun hHeld2 => ?_)
            · exact bel_after hHeld (Nat.le_refl _) hb
            clear hK K hHeld
            have hHeld := hHeld2; clear hHeld2
            try simp only [Act.put, List.setIfInBounds_toArray, List.set_cons_zero, List.set_cons_succ]
            clear hb
            clear NW hgp
            try clear Z_15
            refine wpAnyH_ready (rs := [11]) (by kernel_rfl) (by simp) ?_
            refine (AllReadyH.cons (o := ⟨some 24, _, _, _, _, _⟩) rfl (fun K hK => ?_) AllReadyH.nil)
            · go_simp
              refine (N4.out _).mono ?_
              rintro e x54 ⟨rfl, hb⟩
              have Z_54 := Lib.hid (Whole.bel Z_53.out hb)
              have P_54 := Lib.hid (Whole.bel P_53.out hb)
              refine hK.out _ _ ?_ (fun hHeld2 => ?_)
              · exact bel_after hHeld (Nat.le_refl _) hb
              clear hK K hHeld
              have hHeld := hHeld2; clear hHeld2
              try simp only [Act.put, List.setIfInBounds_toArray, List.set_cons_zero, List.set_cons_succ]
              clear hb
              try clear Z_53
              try clear P_53
              refine wpAnyH_ready (rs := [14]) (by kernel_rfl) (by simp) ?_
              refine (AllReadyH.cons (o := ⟨some 27, _, _, _, _, _⟩) rfl (fun K hK => ?_) AllReadyH.nil)
              · go_simp
                refine (N5.out _).mono ?_
                rintro e x55 ⟨rfl, hb⟩
                have Z_55 := Lib.hid (Whole.bel Z_54.out hb)
                have P_55 := Lib.hid (Whole.bel P_54.out hb)
                refine hK.out _ _ ?_ (fun hHeld2 => ?_)
                · exact bel_after hHeld (Nat.le_refl _) hb
                clear hK K hHeld
                have hHeld := hHeld2; clear hHeld2
                try simp only [Act.put, List.setIfInBounds_toArray, List.set_cons_zero, List.set_cons_succ]
                clear hb
                try clear Z_54
                try clear P_54
                refine wpAnyH_ready (rs := [17]) (by kernel_rfl) (by simp) ?_
                refine (AllReadyH.cons (o := ⟨some 30, _, _, _, _, _⟩) rfl (fun K hK => ?_) AllReadyH.nil)
                · go_simp
                  refine (N6.out _).mono ?_
                  rintro e x56 ⟨rfl, hb⟩
                  have Z_56 := Lib.hid (Whole.bel Z_55.out hb)
                  have P_56 := Lib.hid (Whole.bel P_55.out hb)
                  refine hK.out _ _ ?_ (fun hHeld2 => ?_)
                  · exact bel_after hHeld (Nat.le_refl _) hb
                  clear hK K hHeld
                  have hHeld := hHeld2; clear hHeld2
                  try simp only [Act.put, List.setIfInBounds_toArray, List.set_cons_zero, List.set_cons_succ]
                  clear hb
                  try clear Z_55
                  try clear P_55
                  refine wpAnyH_take (i := 18) (oi := ⟨some 31, _, _, _, _, _⟩) (v := ?v18_57) rfl (by kernel_rfl) (by kernel_rfl) (by kernel_rfl) (fun _ _ _ h => h) (Or.inl ⟨by rfl, ?hy18_57⟩) (by assumption) ?rest18_57
                  case hy18_57 => intro W hSW; go_simp; try rfl
                  try simp only [Act.put, List.setIfInBounds_toArray, List.set_cons_zero, List.set_cons_succ]
                  refine wpAnyH_ready (rs := [19]) (by kernel_rfl) (by simp) ?_
                  refine (AllReadyH.cons (o := ⟨some 32, _, _, _, _, _⟩) rfl (fun K hK => ?_) AllReadyH.nil)
                  · go_simp
                    refine (JC.out _).mono ?_
                    rintro e_ x58 ⟨rfl, hb⟩
                    have Z_58 := Lib.hid (Whole.bel Z_56.out hb)
                    have P_58 := Lib.hid (Whole.bel P_56.out hb)
                    refine hK.out _ _ ?_ (fun hHeld2 => ?_)
                    · exact bel_after hHeld (Nat.le_refl _) hb
                    clear hK K hHeld
                    have hHeld := hHeld2; clear hHeld2
                    try simp only [Act.put, List.setIfInBounds_toArray, List.set_cons_zero, List.set_cons_succ]
                    clear hb
                    try clear Z_56
                    try clear P_56
                    refine wpAnyH_take (i := 20) (oi := ⟨some 12, _, _, _, _, _⟩) (v := ?v20_59) rfl (by kernel_rfl) (by kernel_rfl) (by kernel_rfl) (fun _ _ _ h => h) (Or.inl ⟨by rfl, ?hy20_59⟩) (by assumption) ?rest20_59
                    case hy20_59 => intro W hSW; go_simp; try rfl
                    try simp only [Act.put, List.setIfInBounds_toArray, List.set_cons_zero, List.set_cons_succ]
                    refine wpAnyH_take (i := 21) (oi := ⟨some 33, _, _, _, _, _⟩) (v := ?v21_60) rfl (by kernel_rfl) (by kernel_rfl) (by kernel_rfl) (fun _ _ _ h => h) (Or.inl ⟨by rfl, ?hy21_60⟩) (by assumption) ?rest21_60
                    case hy21_60 => intro W hSW; go_simp; try rfl
                    try simp only [Act.put, List.setIfInBounds_toArray, List.set_cons_zero, List.set_cons_succ]
                    refine wpAnyH_take (i := 22) (oi := ⟨some 34, _, _, _, _, _⟩) (v := ?v22_61) rfl (by kernel_rfl) (by kernel_rfl) (by kernel_rfl) (fun _ _ _ h => h) (Or.inl ⟨by rfl, ?hy22_61⟩) (by assumption) ?rest22_61
                    case hy22_61 => intro W hSW; go_simp; try rfl
                    try simp only [Act.put, List.setIfInBounds_toArray, List.set_cons_zero, List.set_cons_succ]
                    refine wpAnyH_ready (rs := [24]) (by kernel_rfl) (by simp) ?_
                    refine (AllReadyH.cons (o := ⟨none, _, _, _, _, _⟩) rfl (fun K hK => ?_) AllReadyH.nil)
                    · refine step_store_row _ rfl 24 (.tmp 4) (.tmp 33) rfl gp (mom a b) rfl rfl 24 (mom 0 0) P_58.out (mom_size a b) rfl (mom_one a b) ?_
                      have P2 := Lib.hid (P_58.out.setRow (mom a b))
                      have ne : w.heap.size ≠ gp := by have := Z_58.out.lt; have := hgz.out; omega
                      have Z2 := Lib.hid (Z_58.out.setRow_far (mom a b) ne)
                      have hb2 : Below w0.heap.size w0 (x58.setRow gp (mom a b)) := below_setRow hHeld _ hgp2
                      generalize x58.setRow gp _ = x62 at *
                      have P_62 := Lib.hid P2.out
                      have Z_62 := Lib.hid Z2.out
                      refine hK.out _ _ ?_ (fun hHeld2 => ?_)
                      · exact hb2
                      clear hK K hHeld
                      have hHeld := hHeld2; clear hHeld2
                      try simp only [Act.put, List.setIfInBounds_toArray, List.set_cons_zero, List.set_cons_succ]
                      clear hb2
                      try clear Z_58
                      try clear P_58
                      refine wpAnyH_take (i := 25) (oi := ⟨some 5, _, _, _, _, _⟩) (v := ?v25_63) rfl (by kernel_rfl) (by kernel_rfl) (by kernel_rfl) (fun _ _ _ h => h) (Or.inl ⟨by rfl, ?hy25_63⟩) (by assumption) ?rest25_63
                      case hy25_63 => intro W hSW; go_simp; try rfl
                      try simp only [Act.put, List.setIfInBounds_toArray, List.set_cons_zero, List.set_cons_succ]
                      refine wpAnyH_done (by kernel_rfl) ?_ _
                      go_wp2_with fail
                      go_meet
                      case rel => exact ⟨gp, rfl, rfl, Lib.hid ⟨P_62.out, Z_62.out, bel_after B0.out (by have := hgz.out; omega) hHeld, ne, by have := hgz.out; omega⟩⟩
        · go_simp
          have NW := Whole.new x14 24 (mom 0 0)
          have hb := (Below.refl x14.heap.size x14).alloc (Nat.le_refl _) (.cells (mom 0 0) 24)
          simp only [mom00] at NW hb
          generalize x14.alloc _ = x64 at *
          obtain ⟨gp, hgp⟩ : ∃ g, x14.heap.size = g := ⟨_, rfl⟩
          rw [hgp] at NW hb ⊢
          have hgp2 : w0.heap.size ≤ gp := by rw [← hgp]; exact hHeld.size
          rw [← hgp] at hb
          have Z_64 := Lib.hid (Whole.bel Z_14.out hb)
          have P_64 := Lib.hid NW
          refine hK.out _ _ ?_ (fun hHeld2 => ?_)
          · exact bel_after hHeld (Nat.le_refl _) hb
          clear hK K hHeld
          have hHeld := hHeld2; clear hHeld2
          try simp only [Act.put, List.setIfInBounds_toArray, List.set_cons_zero, List.set_cons_succ]
          clear hb
          clear NW hgp
          try clear Z_14
          refine wpAnyH_ready (rs := [8]) (by kernel_rfl) (by simp) ?_
          refine (AllReadyH.cons (o := ⟨some 21, _, _, _, _, _⟩) rfl (fun K hK => ?_) AllReadyH.nil)
          · go_simp
            refine (N3.out _).mono ?_
            rintro e x65 ⟨rfl, hb⟩
            have Z_65 := Lib.hid (Whole.bel Z_64.out hb)
            have P_65 := Lib.hid (Whole.bel P_64.out hb)
            refine hK.out _ _ ?_ (fun hHeld2 => ?_)
            · exact bel_after hHeld (Nat.le_refl _) hb
            clear hK K hHeld
            have hHeld := hHeld2; clear hHeld2
            try simp only [Act.put, List.setIfInBounds_toArray, List.set_cons_zero, List.set_cons_succ]
            clear hb
            try clear Z_64
            try clear P_64
            refine wpAnyH_ready (rs := [11]) (by kernel_rfl) (by simp) ?_
            refine (AllReadyH.cons (o := ⟨some 24, _, _, _, _, _⟩) rfl (fun K hK => ?_) AllReadyH.nil)
            · go_simp
              refine (N4.out _).mono ?_
              rintro e x66 ⟨rfl, hb⟩
              have Z_66 := Lib.hid (Whole.bel Z_65.out hb)
              have P_66 := Lib.hid (Whole.bel P_65.out hb)
              refine hK.out _ _ ?_ (fun hHeld2 => ?_)
              · exact bel_after hHeld (Nat.le_refl _) hb
              clear hK K hHeld
              have hHeld := hHeld2; clear hHeld2
              try simp only [Act.put, List.setIfInBounds_toArray, List.set_cons_zero, List.set_cons_succ]
              clear hb
              try clear Z_65
              try clear P_65
              refine wpAnyH_ready (rs := [14]) (by kernel_rfl) (by simp) ?_
              refine (AllReadyH.cons (o := ⟨some 27, _, _, _, _, _⟩) rfl (fun K hK => ?_) AllReadyH.nil)
              · go_simp
                refine (N5.out _).mono ?_
                rintro e x67 ⟨rfl, hb⟩
                have Z_67 := Lib.hid (Whole.bel Z_66.out hb)
                have P_67 := Lib.hid (Whole.bel P_66.out hb)
                refine hK.out _ _ ?_ (fun hHeld2 => ?_)
                · exact bel_after hHeld (Nat.le_refl _) hb
                clear hK K hHeld
                have hHeld := hHeld2; clear hHeld2
                try simp only [Act.put, List.setIfInBounds_toArray, List.set_cons_zero, List.set_cons_succ]
                clear hb
                try clear Z_66
                try clear P_66
                refine wpAnyH_ready (rs := [17]) (by kernel_rfl) (by simp) ?_
                refine (AllReadyH.cons (o := ⟨some 30, _, _, _, _, _⟩) rfl (fun K hK => ?_) AllReadyH.nil)
                · go_simp
                  refine (N6.out _).mono ?_
                  rintro e x68 ⟨rfl, hb⟩
                  have Z_68 := Lib.hid (Whole.bel Z_67.out hb)
                  have P_68 := Lib.hid (Whole.bel P_67.out hb)
                  refine hK.out _ _ ?_ (fun hHeld2 => ?_)
                  · exact bel_after hHeld (Nat.le_refl _) hb
                  clear hK K hHeld
                  have hHeld := hHeld2; clear hHeld2
                  try simp only [Act.put, List.setIfInBounds_toArray, List.set_cons_zero, List.set_cons_succ]
                  clear hb
                  try clear Z_67
                  try clear P_67
                  refine wpAnyH_take (i := 18) (oi := ⟨some 31, _, _, _, _, _⟩) (v := ?v18_69) rfl (by kernel_rfl) (by kernel_rfl) (by kernel_rfl) (fun _ _ _ h => h) (Or.inl ⟨by rfl, ?hy18_69⟩) (by assumption) ?rest18_69
                  case hy18_69 => intro W hSW; go_simp; try rfl
                  try simp only [Act.put, List.setIfInBounds_toArray, List.set_cons_zero, List.set_cons_succ]
                  refine wpAnyH_ready (rs := [19]) (by kernel_rfl) (by simp) ?_
                  refine (AllReadyH.cons (o := ⟨some 32, _, _, _, _, _⟩) rfl (fun K hK => ?_) AllReadyH.nil)
                  · go_simp
                    refine (JC.out _).mono ?_
                    rintro e_ x70 ⟨rfl, hb⟩
                    have Z_70 := Lib.hid (Whole.bel Z_68.out hb)
                    have P_70 := Lib.hid (Whole.bel P_68.out hb)
                    refine hK.out _ _ ?_ (fun hHeld2 => ?_)
                    · exact bel_after hHeld (Nat.le_refl _) hb
                    clear hK K hHeld
                    have hHeld := hHeld2; clear hHeld2
                    try simp only [Act.put, List.setIfInBounds_toArray, List.set_cons_zero, List.set_cons_succ]
                    clear hb
                    try clear Z_68
                    try clear P_68
                    refine wpAnyH_take (i := 20) (oi := ⟨some 12, _, _, _, _, _⟩) (v := ?v20_71) rfl (by kernel_rfl) (by kernel_rfl) (by kernel_rfl) (fun _ _ _ h => h) (Or.inl ⟨by rfl, ?hy20_71⟩) (by assumption) ?rest20_71
                    case hy20_71 => intro W hSW; go_simp; try rfl
                    try simp only [Act.put, List.setIfInBounds_toArray, List.set_cons_zero, List.set_cons_succ]
                    refine wpAnyH_take (i := 21) (oi := ⟨some 33, _, _, _, _, _⟩) (v := ?v21_72) rfl (by kernel_rfl) (by kernel_rfl) (by kernel_rfl) (fun _ _ _ h => h) (Or.inl ⟨by rfl, ?hy21_72⟩) (by assumption) ?rest21_72
                    case hy21_72 => intro W hSW; go_simp; try rfl
                    try simp only [Act.put, List.setIfInBounds_toArray, List.set_cons_zero, List.set_cons_succ]
                    refine wpAnyH_take (i := 22) (oi := ⟨some 34, _, _, _, _, _⟩) (v := ?v22_73) rfl (by kernel_rfl) (by kernel_rfl) (by kernel_rfl) (fun _ _ _ h => h) (Or.inl ⟨by rfl, ?hy22_73⟩) (by assumption) ?rest22_73
                    case hy22_73 => intro W hSW; go_simp; try rfl
                    try simp only [Act.put, List.setIfInBounds_toArray, List.set_cons_zero, List.set_cons_succ]
                    refine wpAnyH_ready (rs := [24]) (by kernel_rfl) (by simp) ?_
                    refine (AllReadyH.cons (o := ⟨none, _, _, _, _, _⟩) rfl (fun K hK => ?_) AllReadyH.nil)
                    · refine step_store_row _ rfl 24 (.tmp 4) (.tmp 33) rfl gp (mom a b) rfl rfl 24 (mom 0 0) P_70.out (mom_size a b) rfl (mom_one a b) ?_
                      have P2 := Lib.hid (P_70.out.setRow (mom a b))
                      have ne : w.heap.size ≠ gp := by have := Z_70.out.lt; have := hgz.out; omega
                      have Z2 := Lib.hid (Z_70.out.setRow_far (mom a b) ne)
                      have hb2 : Below w0.heap.size w0 (x70.setRow gp (mom a b)) := below_setRow hHeld _ hgp2
                      generalize x70.setRow gp _ = x74 at *
                      have P_74 := Lib.hid P2.out
                      have Z_74 := Lib.hid Z2.out
                      refine hK.out _ _ ?_ (fun hHeld2 => ?_)
                      · exact hb2
                      clear hK K hHeld
                      have hHeld := hHeld2; clear hHeld2
                      try simp only [Act.put, List.setIfInBounds_toArray, List.set_cons_zero, List.set_cons_succ]
                      clear hb2
                      try clear Z_70
                      try clear P_70
                      refine wpAnyH_take (i := 25) (oi := ⟨some 5, _, _, _, _, _⟩) (v := ?v25_75) rfl (by kernel_rfl) (by kernel_rfl) (by kernel_rfl) (fun _ _ _ h => h) (Or.inl ⟨by rfl, ?hy25_75⟩) (by assumption) ?rest25_75
                      case hy25_75 => intro W hSW; go_simp; try rfl
                      try simp only [Act.put, List.setIfInBounds_toArray, List.set_cons_zero, List.set_cons_succ]
                      refine wpAnyH_done (by kernel_rfl) ?_ _
                      go_wp2_with fail
                      go_meet
                      case rel => exact ⟨gp, rfl, rfl, Lib.hid ⟨P_74.out, Z_74.out, bel_after B0.out (by have := hgz.out; omega) hHeld, ne, by have := hgz.out; omega⟩⟩
      · go_simp
        have NW := Whole.new x13 24 (mom 0 0)
        have hb := (Below.refl x13.heap.size x13).alloc (Nat.le_refl _) (.cells (mom 0 0) 24)
        simp only [mom00] at NW hb
        generalize x13.alloc _ = x76 at *
        obtain ⟨gp, hgp⟩ : ∃ g, x13.heap.size = g := ⟨_, rfl⟩
        rw [hgp] at NW hb ⊢
        have hgp2 : w0.heap.size ≤ gp := by rw [← hgp]; exact hHeld.size
        rw [← hgp] at hb
        have Z_76 := Lib.hid (Whole.bel Z_13.out hb)
        have P_76 := Lib.hid NW
        refine hK.out _ _ ?_ (fun hHeld2 => ?_)
        · exact bel_after hHeld (Nat.le_refl _) hb
        clear hK K hHeld
        have hHeld := hHeld2; clear hHeld2
        try simp only [Act.put, List.setIfInBounds_toArray, List.set_cons_zero, List.set_cons_succ]
        clear hb
        clear NW hgp
        try clear Z_13
        refine wpAnyH_ready (rs := [5]) (by kernel_rfl) (by simp) ?_
        refine (AllReadyH.cons (o := ⟨some 18, _, _, _, _, _⟩) rfl (fun K hK => ?_) AllReadyH.nil)
        · go_simp
          refine (N2.out _).mono ?_
          rintro e x77 ⟨rfl, hb⟩
          have Z_77 := Lib.hid (Whole.bel Z_76.out hb)
          have P_77 := Lib.hid (Whole.bel P_76.out hb)
          refine hK.out _ _ ?_ (fun hHeld2 => ?_)
          · exact bel_after hHeld (Nat.le_refl _) hb
          clear hK K hHeld
          have hHeld := hHeld2; clear hHeld2
          try simp only [Act.put, List.setIfInBounds_toArray, List.set_cons_zero, List.set_cons_succ]
          clear hb
          try clear Z_76
          try clear P_76
          refine wpAnyH_ready (rs := [8]) (by kernel_rfl) (by simp) ?_
          refine (AllReadyH.cons (o := ⟨some 21, _, _, _, _, _⟩) rfl (fun K hK => ?_) AllReadyH.nil)
          · go_simp
            refine (N3.out _).mono ?_
            rintro e x78 ⟨rfl, hb⟩
            have Z_78 := Lib.hid (Whole.bel Z_77.out hb)
            have P_78 := Lib.hid (Whole.bel P_77.out hb)
            refine hK.out _ _ ?_ (fun hHeld2 => ?_)
            · exact bel_after hHeld (Nat.le_refl _) hb
            clear hK K hHeld
            have hHeld := hHeld2; clear hHeld2
            try simp only [Act.put, List.setIfInBounds_toArray, List.set_cons_zero, List.set_cons_succ]
            clear hb
            try clear Z_77
            try clear P_77
            refine wpAnyH_ready (rs := [11]) (by kernel_rfl) (by simp) ?_
            refine (AllReadyH.cons (o := ⟨some 24, _, _, _, _, _⟩) rfl (fun K hK => ?_) AllReadyH.nil)
            · go_simp
              refine (N4.out _).mono ?_
              rintro e x79 ⟨rfl, hb⟩
              have Z_79 := Lib.hid (Whole.bel Z_78.out hb)
              have P_79 := Lib.hid (Whole.bel P_78.out hb)
              refine hK.out _ _ ?_ (fun hHeld2 => ?_)
              · exact bel_after hHeld (Nat.le_refl _) hb
              clear hK K hHeld
              have hHeld := hHeld2; clear hHeld2
              try simp only [Act.put, List.setIfInBounds_toArray, List.set_cons_zero, List.set_cons_succ]
              clear hb
              try clear Z_78
              try clear P_78
              refine wpAnyH_ready (rs := [14]) (by kernel_rfl) (by simp) ?_
              refine (AllReadyH.cons (o := ⟨some 27, _, _, _, _, _⟩) rfl (fun K hK => ?_) AllReadyH.nil)
              · go_simp
                refine (N5.out _).mono ?_
                rintro e x80 ⟨rfl, hb⟩
                have Z_80 := Lib.hid (Whole.bel Z_79.out hb)
                have P_80 := Lib.hid (Whole.bel P_79.out hb)
                refine hK.out _ _ ?_ (fun hHeld2 => ?_)
                · exact bel_after hHeld (Nat.le_refl _) hb
                clear hK K hHeld
                have hHeld := hHeld2; clear hHeld2
                try simp only [Act.put, List.setIfInBounds_toArray, List.set_cons_zero, List.set_cons_succ]
                clear hb
                try clear Z_79
                try clear P_79
                refine wpAnyH_ready (rs := [17]) (by kernel_rfl) (by simp) ?_
                refine (AllReadyH.cons (o := ⟨some 30, _, _, _, _, _⟩) rfl (fun K hK => ?_) AllReadyH.nil)
                · go_simp
                  refine (N6.out _).mono ?_
                  rintro e x81 ⟨rfl, hb⟩
                  have Z_81 := Lib.hid (Whole.bel Z_80.out hb)
                  have P_81 := Lib.hid (Whole.bel P_80.out hb)
                  refine hK.out _ _ ?_ (fun hHeld2 => ?_)
                  · exact bel_after hHeld (Nat.le_refl _) hb
                  clear hK K hHeld
                  have hHeld := hHeld2; clear hHeld2
                  try simp only [Act.put, List.setIfInBounds_toArray, List.set_cons_zero, List.set_cons_succ]
                  clear hb
                  try clear Z_80
                  try clear P_80
                  refine wpAnyH_take (i := 18) (oi := ⟨some 31, _, _, _, _, _⟩) (v := ?v18_82) rfl (by kernel_rfl) (by kernel_rfl) (by kernel_rfl) (fun _ _ _ h => h) (Or.inl ⟨by rfl, ?hy18_82⟩) (by assumption) ?rest18_82
                  case hy18_82 => intro W hSW; go_simp; try rfl
                  try simp only [Act.put, List.setIfInBounds_toArray, List.set_cons_zero, List.set_cons_succ]
                  refine wpAnyH_ready (rs := [19]) (by kernel_rfl) (by simp) ?_
                  refine (AllReadyH.cons (o := ⟨some 32, _, _, _, _, _⟩) rfl (fun K hK => ?_) AllReadyH.nil)
                  · go_simp
                    refine (JC.out _).mono ?_
                    rintro e_ x83 ⟨rfl, hb⟩
                    have Z_83 := Lib.hid (Whole.bel Z_81.out hb)
                    have P_83 := Lib.hid (Whole.bel P_81.out hb)
                    refine hK.out _ _ ?_ (fun hHeld2 => ?_)
                    · exact bel_after hHeld (Nat.le_refl _) hb
                    clear hK K hHeld
                    have hHeld := hHeld2; clear hHeld2
                    try simp only [Act.put, List.setIfInBounds_toArray, List.set_cons_zero, List.set_cons_succ]
                    clear hb
                    try clear Z_81
                    try clear P_81
                    refine wpAnyH_take (i := 20) (oi := ⟨some 12, _, _, _, _, _⟩) (v := ?v20_84) rfl (by kernel_rfl) (by kernel_rfl) (by kernel_rfl) (fun _ _ _ h => h) (Or.inl ⟨by rfl, ?hy20_84⟩) (by assumption) ?rest20_84
                    case hy20_84 => intro W hSW; go_simp; try rfl
                    try simp only [Act.put, List.setIfInBounds_toArray, List.set_cons_zero, List.set_cons_succ]
                    refine wpAnyH_take (i := 21) (oi := ⟨some 33, _, _, _, _, _⟩) (v := ?v21_85) rfl (by kernel_rfl) (by kernel_rfl) (by kernel_rfl) (fun _ _ _ h => h) (Or.inl ⟨by rfl, ?hy21_85⟩) (by assumption) ?rest21_85
                    case hy21_85 => intro W hSW; go_simp; try rfl
                    try simp only [Act.put, List.setIfInBounds_toArray, List.set_cons_zero, List.set_cons_succ]
                    refine wpAnyH_take (i := 22) (oi := ⟨some 34, _, _, _, _, _⟩) (v := ?v22_86) rfl (by kernel_rfl) (by kernel_rfl) (by kernel_rfl) (fun _ _ _ h => h) (Or.inl ⟨by rfl, ?hy22_86⟩) (by assumption) ?rest22_86
                    case hy22_86 => intro W hSW; go_simp; try rfl
                    try simp only [Act.put, List.setIfInBounds_toArray, List.set_cons_zero, List.set_cons_succ]
                    refine wpAnyH_ready (rs := [24]) (by kernel_rfl) (by simp) ?_
                    refine (AllReadyH.cons (o := ⟨none, _, _, _, _, _⟩) rfl (fun K hK => ?_) AllReadyH.nil)
                    · refine step_store_row _ rfl 24 (.tmp 4) (.tmp 33) rfl gp (mom a b) rfl rfl 24 (mom 0 0) P_83.out (mom_size a b) rfl (mom_one a b) ?_
                      have P2 := Lib.hid (P_83.out.setRow (mom a b))
                      have ne : w.heap.size ≠ gp := by have := Z_83.out.lt; have := hgz.out; omega
                      have Z2 := Lib.hid (Z_83.out.setRow_far (mom a b) ne)
                      have hb2 : Below w0.heap.size w0 (x83.setRow gp (mom a b)) := below_setRow hHeld _ hgp2
                      generalize x83.setRow gp _ = x87 at *
                      have P_87 := Lib.hid P2.out
                      have Z_87 := Lib.hid Z2.out
                      refine hK.out _ _ ?_ (fun hHeld2 => ?_)
                      · exact hb2
                      clear hK K hHeld
                      have hHeld := hHeld2; clear hHeld2
                      try simp only [Act.put, List.setIfInBounds_toArray, List.set_cons_zero, List.set_cons_succ]
                      clear hb2
                      try clear Z_83
                      try clear P_83
                      refine wpAnyH_take (i := 25) (oi := ⟨some 5, _, _, _, _, _⟩) (v := ?v25_88) rfl (by kernel_rfl) (by kernel_rfl) (by kernel_rfl) (fun _ _ _ h => h) (Or.inl ⟨by rfl, ?hy25_88⟩) (by assumption) ?rest25_88
                      case hy25_88 => intro W hSW; go_simp; try rfl
                      try simp only [Act.put, List.setIfInBounds_toArray, List.set_cons_zero, List.set_cons_succ]
                      refine wpAnyH_done (by kernel_rfl) ?_ _
                      go_wp2_with fail
                      go_meet
                      case rel => exact ⟨gp, rfl, rfl, Lib.hid ⟨P_87.out, Z_87.out, bel_after B0.out (by have := hgz.out; omega) hHeld, ne, by have := hgz.out; omega⟩⟩
    · go_simp
      have NW := Whole.new wd 24 (mom 0 0)
      have hb := (Below.refl wd.heap.size wd).alloc (Nat.le_refl _) (.cells (mom 0 0) 24)
      simp only [mom00] at NW hb
      generalize wd.alloc _ = x89 at *
      obtain ⟨gp, hgp⟩ : ∃ g, wd.heap.size = g := ⟨_, rfl⟩
      rw [hgp] at NW hb ⊢
      have hgp2 : w0.heap.size ≤ gp := by rw [← hgp]; exact hHeld.size
      rw [← hgp] at hb
      have Z_89 := Lib.hid (Whole.bel Z_0.out hb)
      have P_89 := Lib.hid NW
      refine hK.out _ _ ?_ (fun hHeld2 => ?_)
      · exact bel_after hHeld (Nat.le_refl _) hb
      clear hK K hHeld
      have hHeld := hHeld2; clear hHeld2
      try simp only [Act.put, List.setIfInBounds_toArray, List.set_cons_zero, List.set_cons_succ]
      clear hb
      clear NW hgp
      try clear Z_0
      refine wpAnyH_ready (rs := [2]) (by kernel_rfl) (by simp) ?_
      refine (AllReadyH.cons (o := ⟨some 15, _, _, _, _, _⟩) rfl (fun K hK => ?_) AllReadyH.nil)
      · go_simp
        refine (N1.out _).mono ?_
        rintro e x90 ⟨rfl, hb⟩
        have Z_90 := Lib.hid (Whole.bel Z_89.out hb)
        have P_90 := Lib.hid (Whole.bel P_89.out hb)
        refine hK.out _ _ ?_ (fun hHeld2 => ?_)
        · exact bel_after hHeld (Nat.le_refl _) hb
        clear hK K hHeld
        have hHeld := hHeld2; clear hHeld2
        try simp only [Act.put, List.setIfInBounds_toArray, List.set_cons_zero, List.set_cons_succ]
        clear hb
        try clear Z_89
        try clear P_89
        refine wpAnyH_ready (rs := [5]) (by kernel_rfl) (by simp) ?_
        refine (AllReadyH.cons (o := ⟨some 18, _, _, _, _, _⟩) rfl (fun K hK => ?_) AllReadyH.nil)
        · go_simp
          refine (N2.out _).mono ?_
          rintro e x91 ⟨rfl, hb⟩
          have Z_91 := Lib.hid (Whole.bel Z_90.out hb)
          have P_91 := Lib.hid (Whole.bel P_90.out hb)
          refine hK.out _ _ ?_ (fun hHeld2 => ?_)
          · exact bel_after hHeld (Nat.le_refl _) hb
          clear hK K hHeld
          have hHeld := hHeld2; clear hHeld2
          try simp only [Act.put, List.setIfInBounds_toArray, List.set_cons_zero, List.set_cons_succ]
          clear hb
          try clear Z_90
          try clear P_90
          refine wpAnyH_ready (rs := [8]) (by kernel_rfl) (by simp) ?_
          refine (AllReadyH.cons (o := ⟨some 21, _, _, _, _, _⟩) rfl (fun K hK => ?_) AllReadyH.nil)
          · go_simp
            refine (N3.out _).mono ?_
            rintro e x92 ⟨rfl, hb⟩
            have Z_92 := Lib.hid (Whole.bel Z_91.out hb)
            have P_92 := Lib.hid (Whole.bel P_91.out hb)
            refine hK.out _ _ ?_ (fun hHeld2 => ?_)
            · exact bel_after hHeld (Nat.le_refl _) hb
            clear hK K hHeld
            have hHeld := hHeld2; clear hHeld2
            try simp only [Act.put, List.setIfInBounds_toArray, List.set_cons_zero, List.set_cons_succ]
            clear hb
            try clear Z_91
            try clear P_91
            refine wpAnyH_ready (rs := [11]) (by kernel_rfl) (by simp) ?_
            refine (AllReadyH.cons (o := ⟨some 24, _, _, _, _, _⟩) rfl (fun K hK => ?_) AllReadyH.nil)
            · go_simp
              refine (N4.out _).mono ?_
              rintro e x93 ⟨rfl, hb⟩
              have Z_93 := Lib.hid (Whole.bel Z_92.out hb)
              have P_93 := Lib.hid (Whole.bel P_92.out hb)
              refine hK.out _ _ ?_ (fun hHeld2 => ?_)
              · exact bel_after hHeld (Nat.le_refl _) hb
              clear hK K hHeld
              have hHeld := hHeld2; clear hHeld2
              try simp only [Act.put, List.setIfInBounds_toArray, List.set_cons_zero, List.set_cons_succ]
              clear hb
              try clear Z_92
              try clear P_92
              refine wpAnyH_ready (rs := [14]) (by kernel_rfl) (by simp) ?_
              refine (AllReadyH.cons (o := ⟨some 27, _, _, _, _, _⟩) rfl (fun K hK => ?_) AllReadyH.nil)
              · go_simp
                refine (N5.out _).mono ?_
                rintro e x94 ⟨rfl, hb⟩
                have Z_94 := Lib.hid (Whole.bel Z_93.out hb)
                have P_94 := Lib.hid (Whole.bel P_93.out hb)
                refine hK.out _ _ ?_ (fun hHeld2 => ?_)
                · exact bel_after hHeld (Nat.le_refl _) hb
                clear hK K hHeld
                have hHeld := hHeld2; clear hHeld2
                try simp only [Act.put, List.setIfInBounds_toArray, List.set_cons_zero, List.set_cons_succ]
                clear hb
                try clear Z_93
                try clear P_93
                refine wpAnyH_ready (rs := [17]) (by kernel_rfl) (by simp) ?_
                refine (AllReadyH.cons (o := ⟨some 30, _, _, _, _, _⟩) rfl (fun K hK => ?_) AllReadyH.nil)
                · go_simp
                  refine (N6.out _).mono ?_
                  rintro e x95 ⟨rfl, hb⟩
                  have Z_95 := Lib.hid (Whole.bel Z_94.out hb)
                  have P_95 := Lib.hid (Whole.bel P_94.out hb)
                  refine hK.out _ _ ?_ (fun hHeld2 => ?_)
                  · exact bel_after hHeld (Nat.le_refl _) hb
                  clear hK K hHeld
                  have hHeld := hHeld2; clear hHeld2
                  try simp only [Act.put, List.setIfInBounds_toArray, List.set_cons_zero, List.set_cons_succ]
                  clear hb
                  try clear Z_94
                  try clear P_94
                  refine wpAnyH_take (i := 18) (oi := ⟨some 31, _, _, _, _, _⟩) (v := ?v18_96) rfl (by kernel_rfl) (by kernel_rfl) (by kernel_rfl) (fun _ _ _ h => h) (Or.inl ⟨by rfl, ?hy18_96⟩) (by assumption) ?rest18_96
                  case hy18_96 => intro W hSW; go_simp; try rfl
                  try simp only [Act.put, List.setIfInBounds_toArray, List.set_cons_zero, List.set_cons_succ]
                  refine wpAnyH_ready (rs := [19]) (by kernel_rfl) (by simp) ?_
                  refine (AllReadyH.cons (o := ⟨some 32, _, _, _, _, _⟩) rfl (fun K hK => ?_) AllReadyH.nil)
                  · go_simp
                    refine (JC.out _).mono ?_
                    rintro e_ x97 ⟨rfl, hb⟩
                    have Z_97 := Lib.hid (Whole.bel Z_95.out hb)
                    have P_97 := Lib.hid (Whole.bel P_95.out hb)
                    refine hK.out _ _ ?_ (fun hHeld2 => ?_)
                    · exact bel_after hHeld (Nat.le_refl _) hb
                    clear hK K hHeld
                    have hHeld := hHeld2; clear hHeld2
                    try simp only [Act.put, List.setIfInBounds_toArray, List.set_cons_zero, List.set_cons_succ]
                    clear hb
                    try clear Z_95
                    try clear P_95
                    refine wpAnyH_take (i := 20) (oi := ⟨some 12, _, _, _, _, _⟩) (v := ?v20_98) rfl (by kernel_rfl) (by kernel_rfl) (by kernel_rfl) (fun _ _ _ h => h) (Or.inl ⟨by rfl, ?hy20_98⟩) (by assumption) ?rest20_98
                    case hy20_98 => intro W hSW; go_simp; try rfl
                    try simp only [Act.put, List.setIfInBounds_toArray, List.set_cons_zero, List.set_cons_succ]
                    refine wpAnyH_take (i := 21) (oi := ⟨some 33, _, _, _, _, _⟩) (v := ?v21_99) rfl (by kernel_rfl) (by kernel_rfl) (by kernel_rfl) (fun _ _ _ h => h) (Or.inl ⟨by rfl, ?hy21_99⟩) (by assumption) ?rest21_99
                    case hy21_99 => intro W hSW; go_simp; try rfl
                    try simp only [Act.put, List.setIfInBounds_toArray, List.set_cons_zero, List.set_cons_succ]
                    refine wpAnyH_take (i := 22) (oi := ⟨some 34, _, _, _, _, _⟩) (v := ?v22_100) rfl (by kernel_rfl) (by kernel_rfl) (by kernel_rfl) (fun _ _ _ h => h) (Or.inl ⟨by rfl, ?hy22_100⟩) (by assumption) ?rest22_100
                    case hy22_100 => intro W hSW; go_simp; try rfl
                    try simp only [Act.put, List.setIfInBounds_toArray, List.set_cons_zero, List.set_cons_succ]
                    refine wpAnyH_ready (rs := [24]) (by kernel_rfl) (by simp) ?_
                    refine (AllReadyH.cons (o := ⟨none, _, _, _, _, _⟩) rfl (fun K hK => ?_) AllReadyH.nil)
                    · refine step_store_row _ rfl 24 (.tmp 4) (.tmp 33) rfl gp (mom a b) rfl rfl 24 (mom 0 0) P_97.out (mom_size a b) rfl (mom_one a b) ?_
                      have P2 := Lib.hid (P_97.out.setRow (mom a b))
                      have ne : w.heap.size ≠ gp := by have := Z_97.out.lt; have := hgz.out; omega
                      have Z2 := Lib.hid (Z_97.out.setRow_far (mom a b) ne)
                      have hb2 : Below w0.heap.size w0 (x97.setRow gp (mom a b)) := below_setRow hHeld _ hgp2
                      generalize x97.setRow gp _ = x101 at *
                      have P_101 := Lib.hid P2.out
                      have Z_101 := Lib.hid Z2.out
                      refine hK.out _ _ ?_ (fun hHeld2 => ?_)
                      · exact hb2
                      clear hK K hHeld
                      have hHeld := hHeld2; clear hHeld2
                      try simp only [Act.put, List.setIfInBounds_toArray, List.set_cons_zero, List.set_cons_succ]
                      clear hb2
                      try clear Z_97
                      try clear P_97
                      refine wpAnyH_take (i := 25) (oi := ⟨some 5, _, _, _, _, _⟩) (v := ?v25_102) rfl (by kernel_rfl) (by kernel_rfl) (by kernel_rfl) (fun _ _ _ h => h) (Or.inl ⟨by rfl, ?hy25_102⟩) (by assumption) ?rest25_102
                      case hy25_102 => intro W hSW; go_simp; try rfl
                      try simp only [Act.put, List.setIfInBounds_toArray, List.set_cons_zero, List.set_cons_succ]
                      refine wpAnyH_done (by kernel_rfl) ?_ _
                      go_wp2_with fail
                      go_meet
                      case rel => exact ⟨gp, rfl, rfl, Lib.hid ⟨P_101.out, Z_101.out, bel_after B0.out (by have := hgz.out; omega) hHeld, ne, by have := hgz.out; omega⟩⟩

  case rest =>
    obtain ⟨gp, rfl, rfl, h⟩ := hcut
    obtain ⟨P', Z', B', ne, hge⟩ := h.out
    have P1 := Lib.hid P'; have Z1 := Lib.hid Z'; have B1 := Lib.hid B'
    clear P' Z' B' h F24 B0 N1 N2 N3 N4 N5 N6 JC hgz
    by_cases he : e = 0
    · obtain ⟨a1, a2, a3⟩ := HJ.out he
      have PR := Lib.hid (fun W hW => print_any a b a1 a2 a3 W hW)
      subst he
      have TW := Lib.hid (HT.out.bel B1.out)
      by_cases hp : pr a b = s
      · have hx : ((pr a b).toList == s.toList) = true := by rw [ba_eq]; simpa using hp
        have hr2 : joV (a, b, 0) = r := by have h := hr.out; rw [if_neg (by simp), if_neg (by simpa using hp)] at h; exact h
        clear hr hp HJ a1 a2 a3
        generalize pr a b = S at *
        go_wp2_with (refine wpList_load_row rfl 24 (.tmp 4) rfl gp rfl 24 (mom a b) (0, 0) _ P1.out Tryd.underlying24 rfl (mom_size a b) ?_)
        refine (PR.out _ TW.out).mono ?_; rintro e_ w2 ⟨rfl, b2⟩
        have P2 := Lib.hid (P1.out.bel b2); have Z2 := Lib.hid (Z1.out.bel b2); have B2 := Lib.hid (bel_after B1.out (Nat.le_refl _) b2)
        clear b2 P1 Z1 B1 TW
        go_wp2_with (first | (refine wpList_load_row rfl 24 (.tmp 4) rfl gp rfl 24 (mom a b) (0, 0) _ P2.out Tryd.underlying24 rfl (mom_size a b) ?_) | (refine wpList_store_row rfl 24 (.tmp 2) (.tmp 47) rfl w.heap.size (mom a b) rfl rfl 24 (mom 0 0) Z2.out (mom_size a b) rfl (mom_one a b) ?_))
        have Z24 := Lib.hid (Z2.out.setRow (mom a b))
        have Z := Lib.hid (below_setRow B2.out (mom a b) (Nat.le_refl _))
        refine bodyPost_ret (results_mom (p := 2) (u := 3) rfl _ _ w.heap.size a b rfl Z24.out) rfl ?_
        exact ⟨by rw [← hr2]; rfl, Z.out⟩
      · have hx : ((pr a b).toList == s.toList) = false := by rw [ba_eq]; simpa using hp
        have hr2 : joV (0, 0, 2) = r := by have h := hr.out; rw [if_neg (by simp), if_pos (by simpa using hp)] at h; exact h
        clear hr hp HJ a1 a2 a3
        generalize pr a b = S at *
        go_wp2_with (refine wpList_load_row rfl 24 (.tmp 4) rfl gp rfl 24 (mom a b) (0, 0) _ P1.out Tryd.underlying24 rfl (mom_size a b) ?_)
        refine (PR.out _ TW.out).mono ?_; rintro e_ w2 ⟨rfl, b2⟩
        have Z2 := Lib.hid (Z1.out.bel b2); have B2 := Lib.hid (bel_after B1.out (Nat.le_refl _) b2)
        clear b2 P1 Z1 B1 TW
        go_wp2_with (refine wpList_store_row rfl 24 (.tmp 2) (.tmp 46) rfl w.heap.size (mom 0 0) rfl rfl 24 (mom 0 0) Z2.out (mom_size 0 0) rfl (mom_one 0 0) ?_)
        have Z24 := Lib.hid (Z2.out.setRow (mom 0 0))
        have Z := Lib.hid (below_setRow B2.out (mom 0 0) (Nat.le_refl _))
        refine bodyPost_ret (results_mom (p := 2) (u := 3) rfl _ _ w.heap.size 0 0 rfl Z24.out) rfl ?_
        exact ⟨by rw [← hr2]; rfl, Z.out⟩
    · have hr2 : joV (0, 0, 2) = r := by have h := hr.out; rw [if_pos he] at h; exact h
      have hx : (e != 0) = true := by simpa using he
      clear hr he HJ
      go_wp2_with (refine wpList_store_row rfl 24 (.tmp 2) (.tmp 37) rfl w.heap.size (mom 0 0) rfl rfl 24 (mom 0 0) Z1.out (mom_size 0 0) rfl (mom_one 0 0) ?_)
      have Z24 := Lib.hid (Z1.out.setRow (mom 0 0))
      have Z := Lib.hid (below_setRow B1.out (mom 0 0) (Nat.le_refl _))
      refine bodyPost_ret (results_mom (p := 2) (u := 3) rfl _ _ w.heap.size 0 0 rfl Z24.out) rfl ?_
      exact ⟨by rw [← hr2]; rfl, Z.out⟩

theorem parse_any (s : ByteArray) (w : World) (ht : Tab w) : Calls Tryd.prog 15 #[.string s] w (Gives w (joV (paM s))) := by
  by_cases hs : s.size = 19
  · exact parse_long s hs w ht
  · rw [show paM s = (0, 0, 2) by unfold paM; rw [if_pos hs]]
    exact parse_short s hs w
end Go.Proofs.YtdoclbgmbneggaaDoor
