/-
  The document's bytes of records: Local, Behind, Central, End. Conditions: a name of at most a thousand bytes.
-/
import Derived.Test.YtplilajgncfieaaRF
import Derived.Test.YtplilajgncfieaaE1
import Derived.Lib.ConvBytes
namespace Go.Proofs.Ytplilajgncfieaa
open Go.RowKit
set_option maxRecDepth 100000

theorem refEnd_any (many size off : Int) (w : World) :
    Calls Try.prog 14 #[.int .i64 many, .int .i64 size, .int .i64 off] w (GivesRow w 5 1 22 (bv (endL many size off))) := by
  have hn : (endL many size off).length = 22 := by simp [endL, putL_length]
  have hX : pairsL [(4, 101010256), (2, 0), (2, 0), (2, many), (2, many), (4, size), (4, off), (2, 0)] = endL many size off := by simp [endL, pairsL, putL]
  have P := Lib.hid (fun W An hN => refPut_any An 16 W.heap.size 16 [(4, 101010256), (2, 0), (2, 0), (2, many), (2, many), (4, size), (4, off), (2, 0)] (by simp) rfl (by omega) W hN (Nat.le_refl _) _ hX 22 hn)
  clear hn hX
  go_enter Try.func14, Try.ntmps14
  go_wp2_with fail
  have b0 := (Below.refl w.heap.size w).alloc (Nat.le_refl _) (.cells (iv (fl [(4, 101010256), (2, 0), (2, 0), (2, many), (2, many), (4, size), (4, off), (2, 0)])).toArray 3)
  refine (P.out _ _ (seen_ints (m := 16) (Whole.new w 3 (iv (fl [(4, 101010256), (2, 0), (2, 0), (2, many), (2, many), (4, size), (4, off), (2, 0)])).toArray) rfl)).mono ?_
  rintro e w1 ⟨v, rfl, ho, hb⟩
  have HO := Lib.hid (own_base ho b0.size)
  have HB := Lib.hid (bel_after b0 (Nat.le_refl _) hb)
  clear ho hb b0
  go_wp2_with fail
  go_ret
  exact ⟨v, rfl, HO.out, HB.out⟩

theorem refBehind_any (me : Int) (da cl su : Nat) (pa si : Int) (na : ByteArray) (of : Int) (hr : RecIn ⟨me, da, cl, su, pa, si, na, of⟩) (w : World) :
    Calls Try.prog 10 #[.agg #[.int .i64 me, .int .u16 da, .int .u16 cl, .int .u32 su, .int .i64 pa, .int .i64 si, .string na, .int .i64 of]] w (GivesRow w 5 1 16 (bv (behindL ⟨me, da, cl, su, pa, si, na, of⟩))) := by
  have hn : (behindL ⟨me, da, cl, su, pa, si, na, of⟩).length = 16 := by simp [behindL, putL_length]
  have hX : pairsL [(4, 134695760), (4, (su : Int)), (4, pa), (4, si)] = behindL ⟨me, da, cl, su, pa, si, na, of⟩ := by simp [behindL, pairsL, putL]
  have w3 := nat_wrap64 (n := su) (by have := hr.su; simp only at this; omega)
  have P := Lib.hid (fun W An hN => refPut_any An 8 W.heap.size 8 [(4, 134695760), (4, (su : Int)), (4, pa), (4, si)] (by simp) rfl (by omega) W hN (Nat.le_refl _) _ hX 16 hn)
  clear hn hX hr
  go_enter Try.func10, Try.ntmps10
  go_wp2_with fail
  have B0 := (Below.refl w.heap.size w).alloc (Nat.le_refl _) (.cells (recC ⟨me, da, cl, su, pa, si, na, of⟩) 27)
  simp only [recC] at B0
  generalize hw0 : w.alloc _ = w0 at B0 ⊢
  have hg : w.heap.size + 1 = w0.heap.size := by rw [← hw0]; simp
  clear hw0
  rw [hg]
  have b0 := B0.alloc (w := w0) (B0.size) (.cells (iv (fl [(4, 134695760), (4, (su : Int)), (4, pa), (4, si)])).toArray 3)
  refine (P.out _ _ (seen_ints (m := 8) (Whole.new w0 3 (iv (fl [(4, 134695760), (4, (su : Int)), (4, pa), (4, si)])).toArray) rfl)).mono ?_
  rintro e w1 ⟨v, rfl, ho, hb⟩
  have HO := Lib.hid (own_base ho b0.size)
  have HB := Lib.hid (bel_after b0 (Nat.le_refl _) hb)
  clear ho hb b0 B0 hg
  go_wp2_with fail
  go_ret
  exact ⟨v, rfl, HO.out, HB.out⟩

/-- A text's bytes, as new memory. -/
theorem conv_str (W : World) (s : ByteArray) : ∃ c W', (convert 9 29 (.string s)).run Try.prog W = .ok (.slice (some ⟨W.heap.size, 0, none⟩) s.size c) W' ∧ Below W.heap.size W W' ∧ Seen W' W'.heap.size 1 (some ⟨W.heap.size, 0, none⟩) s.size c (bv (strL s)) := by
  have hr := Go.Lib.run_convert_string_bytes (P := Try.prog) W 9 29 5 s Try.underlying9 Try.underlying29 Try.underlying5
  refine ⟨_, _, hr, ⟨?_, ?_, ?_, ?_, ?_⟩, ?_⟩
  · rfl
  · rfl
  · rfl
  · rw [Go.Lib.bytesWorld_size]; omega
  · intro k hk; exact Go.Lib.bytesWorld_at_old W 5 s k hk
  · refine ⟨by simp [strL_length], grownCap_ge _ _ _ _, .inr ⟨_, rfl, fun _ => ⟨rfl, ?_, fun j u hu => ?_⟩⟩⟩
    · rw [Go.Lib.bytesWorld_size]; simp
    · have hj : j < (strL s).length := by
        have := (List.getElem?_eq_some_iff.1 hu).1
        simpa using this
      rw [bv_get _ _ hj] at hu
      rw [strL_length] at hj
      have h := Go.Lib.bytesWorld_cell W 5 s j hj
      simp only [Nat.zero_add]
      rw [h, ← hu]
      have hd : j < s.data.toList.length := hj
      congr 2
      simp only [strL, List.getElem_map]
      rw [List.getD_eq_getElem?_getD, List.getElem?_eq_getElem hd]
      rfl
theorem step_conv_str (w : World) {ops : Array Oper} {o : Oper} {a : Act} {K : Act → World → Prop} {Q : Exit → Act → World → Prop} {E : Prop} (hgd : o.guard = none) (x : Operand) (ho : o.op = .convert 9 29 x) (s : ByteArray) (hx : a.eval x = .string s)
    (h : ∀ c w', Below w.heap.size w w' → Seen w' w'.heap.size 1 (some ⟨w.heap.size, 0, none⟩) s.size c (bv (strL s)) → K (a.put o.dst (.slice (some ⟨w.heap.size, 0, none⟩) s.size c)) w') :
    if Region.wanted o (yielded ops a.tmps) = true then Oper.wp Try.prog o a w K Q else E := by
  have hw : Region.wanted o (yielded ops a.tmps) = true := by simp [Region.wanted, hgd]
  rw [if_pos hw]
  obtain ⟨c, w', hrun, hb, hs⟩ := conv_str w s
  unfold Oper.wp
  simp [execOp, ho, hx, hrun, Result.andThen]
  exact h c w' hb hs

/-- Bytes that are owned. -/
def OwnB (w : World) (base n : Nat) (v : Value) (bs : List Nat) : Prop := w.ownsRow base 5 1 v n (bv bs)
theorem OwnB.bel {w w' : World} {base n : Nat} {v : Value} {bs : List Nat} (h : OwnB w base n v bs) (hb : Below w.heap.size w w') : OwnB w' base n v bs := own_only h (Only.of_below hb Nob) (fun _ _ h => h)

theorem shared_pairs (me : Int) (da cl su : Nat) (pa si : Int) (na : ByteArray) (of : Int) (b : Bool) : pairsL [(4, 67324752), (2, 20), (2, flagN b), (2, me), (2, (cl : Int)), (2, (da : Int)), (4, (su : Int)), (4, pa), (4, si), (2, (na.size : Int)), (2, 0)] = putL [67324752] 4 ++ putL [20] 2 ++ sharedL ⟨me, da, cl, su, pa, si, na, of⟩ b := by
  simp [pairsL, putL, sharedL]
theorem central_pairs (me : Int) (da cl su : Nat) (pa si : Int) (na : ByteArray) (of : Int) (b : Bool) : pairsL [(4, 33639248), (2, 20), (2, 20), (2, flagN b), (2, me), (2, (cl : Int)), (2, (da : Int)), (4, (su : Int)), (4, pa), (4, si), (2, (na.size : Int)), (2, 0), (2, 0), (2, 0), (2, 0), (4, 0), (4, of)] = putL [33639248] 4 ++ putL [20, 20] 2 ++ sharedL ⟨me, da, cl, su, pa, si, na, of⟩ b ++ putL [0, 0, 0] 2 ++ putL [0, of] 4 := by
  simp [pairsL, putL, sharedL]

set_option linter.unusedSimpArgs false in
set_option maxHeartbeats 4000000 in
theorem refCentral_any (me : Int) (da cl su : Nat) (pa si : Int) (na : ByteArray) (of : Int) (hr : RecIn ⟨me, da, cl, su, pa, si, na, of⟩) (hna : na.size ≤ 1000) (be : Bool) (w : World) :
    Calls Try.prog 12 #[.agg #[.int .i64 me, .int .u16 da, .int .u16 cl, .int .u32 su, .int .i64 pa, .int .i64 si, .string na, .int .i64 of], .bool be] w (GivesRow w 5 1 (46 + na.size) (bv (centralL ⟨me, da, cl, su, pa, si, na, of⟩ be))) := by
  obtain ⟨i0, hi0, hz0, hz1, hz2⟩ := info_parts byte_info
  obtain ⟨L, hL⟩ : ∃ l, putL [33639248] 4 ++ putL [20, 20] 2 ++ sharedL ⟨me, da, cl, su, pa, si, na, of⟩ be ++ putL [0, 0, 0] 2 ++ putL [0, of] 4 = l := ⟨_, rfl⟩
  have hn : L.length = 46 := by rw [← hL]; simp [putL_length, sharedL_length]
  have hX := central_pairs me da cl su pa si na of be
  rw [hL] at hX
  have HF := Lib.hid (fun W => refFlags_any be W)
  obtain ⟨f, hf⟩ : ∃ f, flagN be = f := ⟨_, rfl⟩
  rw [hf] at hX HF
  have P := Lib.hid (fun W An hN => refPut_any An 34 W.heap.size 34 [(4, 33639248), (2, 20), (2, 20), (2, f), (2, me), (2, (cl : Int)), (2, (da : Int)), (4, (su : Int)), (4, pa), (4, si), (2, (na.size : Int)), (2, 0), (2, 0), (2, 0), (2, 0), (4, 0), (4, of)] (by simp) rfl (by omega) W hN (Nat.le_refl _) _ hX 46 hn)
  have hC : centralL ⟨me, da, cl, su, pa, si, na, of⟩ be = L ++ strL na := by rw [← hL]; rfl
  rw [hC]
  have w3 := nat_wrap64 (n := su) (by have := hr.su; simp only at this; omega)
  have w2 := nat_wrap64 (n := cl) (by have := hr.cl; simp only at this; omega)
  have w1 := nat_wrap64 (n := da) (by have := hr.da; simp only at this; omega)
  clear hL hX hn hC hf hr
  go_enter Try.func12, Try.ntmps12
  go_upto_region 1 with fail
  have HR := Lib.hid (RecAt.new w ⟨me, da, cl, su, pa, si, na, of⟩)
  have B0 := Lib.hid ((Below.refl w.heap.size w).alloc (Nat.le_refl _) (.cells (recC ⟨me, da, cl, su, pa, si, na, of⟩) 27))
  simp only [recC] at HR B0
  generalize w.alloc _ = w0 at HR B0 ⊢
  obtain ⟨gb, hgb⟩ : ∃ gb, w.heap.size = gb := ⟨_, rfl⟩
  rw [hgb] at HR ⊢
  rw [← hgb]
  refine wp_region_held_drew (S := (fun W => Below w0.heap.size w0 W)) (by kernel_rfl) (Below.refl _ _).drew (fun hHeld => ?_)
  have hHeld0 := hHeld
  generalize hwd : w0.drew = wd at *
  clear hwd hHeld0
  refine wpAnyH_take (i := 0) (oi := ⟨some 5, _, _, _, _, _⟩) (v := ?v0_1) rfl (by kernel_rfl) (by kernel_rfl) (by kernel_rfl) (fun _ _ _ h => h) (Or.inl ⟨by rfl, ?hy0_1⟩) (by assumption) ?rest0_1
  case hy0_1 => intro W hSW; go_simp; try rfl
  try simp only [Act.put, List.setIfInBounds_toArray, List.set_cons_zero, List.set_cons_succ]
  refine wpAnyH_take (i := 2) (oi := ⟨some 7, _, _, _, _, _⟩) (v := ?v2_2) rfl (by kernel_rfl) (by kernel_rfl) (by kernel_rfl) (fun _ _ _ h => h) (Or.inl ⟨by rfl, ?hy2_2⟩) (by assumption) ?rest2_2
  case hy2_2 => intro W hSW; go_simp; try rfl
  try simp only [Act.put, List.setIfInBounds_toArray, List.set_cons_zero, List.set_cons_succ]
  refine wpAnyH_take (i := 3) (oi := ⟨some 8, _, _, _, _, _⟩) (v := ?v3_3) rfl (by kernel_rfl) (by kernel_rfl) (by kernel_rfl) (fun _ _ _ h => h) (Or.inl ⟨by rfl, ?hy3_3⟩) (by assumption) ?rest3_3
  case hy3_3 => intro W hSW; obtain ⟨c0, cd, ck, c3, c4, c5, c6, c7⟩ := RecAt.cells (HR.out.bel hSW); go_simp; try rfl
  try simp only [Act.put, List.setIfInBounds_toArray, List.set_cons_zero, List.set_cons_succ]
  refine wpAnyH_take (i := 4) (oi := ⟨some 9, _, _, _, _, _⟩) (v := ?v4_4) rfl (by kernel_rfl) (by kernel_rfl) (by kernel_rfl) (fun _ _ _ h => h) (Or.inl ⟨by rfl, ?hy4_4⟩) (by assumption) ?rest4_4
  case hy4_4 => intro W hSW; go_simp; try rfl
  try simp only [Act.put, List.setIfInBounds_toArray, List.set_cons_zero, List.set_cons_succ]
  refine wpAnyH_take (i := 5) (oi := ⟨some 10, _, _, _, _, _⟩) (v := ?v5_5) rfl (by kernel_rfl) (by kernel_rfl) (by kernel_rfl) (fun _ _ _ h => h) (Or.inl ⟨by rfl, ?hy5_5⟩) (by assumption) ?rest5_5
  case hy5_5 => intro W hSW; go_simp; try rfl
  try simp only [Act.put, List.setIfInBounds_toArray, List.set_cons_zero, List.set_cons_succ]
  refine wpAnyH_take (i := 6) (oi := ⟨some 11, _, _, _, _, _⟩) (v := ?v6_6) rfl (by kernel_rfl) (by kernel_rfl) (by kernel_rfl) (fun _ _ _ h => h) (Or.inl ⟨by rfl, ?hy6_6⟩) (by assumption) ?rest6_6
  case hy6_6 => intro W hSW; obtain ⟨c0, cd, ck, c3, c4, c5, c6, c7⟩ := RecAt.cells (HR.out.bel hSW); go_simp; try rfl
  try simp only [Act.put, List.setIfInBounds_toArray, List.set_cons_zero, List.set_cons_succ]
  refine wpAnyH_take (i := 7) (oi := ⟨some 12, _, _, _, _, _⟩) (v := ?v7_7) rfl (by kernel_rfl) (by kernel_rfl) (by kernel_rfl) (fun _ _ _ h => h) (Or.inl ⟨by rfl, ?hy7_7⟩) (by assumption) ?rest7_7
  case hy7_7 => intro W hSW; go_simp; try rfl
  try simp only [Act.put, List.setIfInBounds_toArray, List.set_cons_zero, List.set_cons_succ]
  refine wpAnyH_take (i := 8) (oi := ⟨some 13, _, _, _, _, _⟩) (v := ?v8_8) rfl (by kernel_rfl) (by kernel_rfl) (by kernel_rfl) (fun _ _ _ h => h) (Or.inl ⟨by rfl, ?hy8_8⟩) (by assumption) ?rest8_8
  case hy8_8 => intro W hSW; go_simp; try rfl
  try simp only [Act.put, List.setIfInBounds_toArray, List.set_cons_zero, List.set_cons_succ]
  refine wpAnyH_take (i := 9) (oi := ⟨some 14, _, _, _, _, _⟩) (v := ?v9_9) rfl (by kernel_rfl) (by kernel_rfl) (by kernel_rfl) (fun _ _ _ h => h) (Or.inl ⟨by rfl, ?hy9_9⟩) (by assumption) ?rest9_9
  case hy9_9 => intro W hSW; go_simp; try rfl
  try simp only [Act.put, List.setIfInBounds_toArray, List.set_cons_zero, List.set_cons_succ]
  refine wpAnyH_take (i := 10) (oi := ⟨some 15, _, _, _, _, _⟩) (v := ?v10_10) rfl (by kernel_rfl) (by kernel_rfl) (by kernel_rfl) (fun _ _ _ h => h) (Or.inl ⟨by rfl, ?hy10_10⟩) (by assumption) ?rest10_10
  case hy10_10 => intro W hSW; obtain ⟨c0, cd, ck, c3, c4, c5, c6, c7⟩ := RecAt.cells (HR.out.bel hSW); go_simp; try rfl
  try simp only [Act.put, List.setIfInBounds_toArray, List.set_cons_zero, List.set_cons_succ]
  refine wpAnyH_take (i := 11) (oi := ⟨some 16, _, _, _, _, _⟩) (v := ?v11_11) rfl (by kernel_rfl) (by kernel_rfl) (by kernel_rfl) (fun _ _ _ h => h) (Or.inl ⟨by rfl, ?hy11_11⟩) (by assumption) ?rest11_11
  case hy11_11 => intro W hSW; go_simp; try rfl
  try simp only [Act.put, List.setIfInBounds_toArray, List.set_cons_zero, List.set_cons_succ]
  refine wpAnyH_take (i := 12) (oi := ⟨some 17, _, _, _, _, _⟩) (v := ?v12_12) rfl (by kernel_rfl) (by kernel_rfl) (by kernel_rfl) (fun _ _ _ h => h) (Or.inl ⟨by rfl, ?hy12_12⟩) (by assumption) ?rest12_12
  case hy12_12 => intro W hSW; go_simp; try rfl
  try simp only [Act.put, List.setIfInBounds_toArray, List.set_cons_zero, List.set_cons_succ]
  refine wpAnyH_take (i := 13) (oi := ⟨some 18, _, _, _, _, _⟩) (v := ?v13_13) rfl (by kernel_rfl) (by kernel_rfl) (by kernel_rfl) (fun _ _ _ h => h) (Or.inl ⟨by rfl, ?hy13_13⟩) (by assumption) ?rest13_13
  case hy13_13 => intro W hSW; obtain ⟨c0, cd, ck, c3, c4, c5, c6, c7⟩ := RecAt.cells (HR.out.bel hSW); go_simp; try rfl
  try simp only [Act.put, List.setIfInBounds_toArray, List.set_cons_zero, List.set_cons_succ]
  refine wpAnyH_take (i := 14) (oi := ⟨some 19, _, _, _, _, _⟩) (v := ?v14_14) rfl (by kernel_rfl) (by kernel_rfl) (by kernel_rfl) (fun _ _ _ h => h) (Or.inl ⟨by rfl, ?hy14_14⟩) (by assumption) ?rest14_14
  case hy14_14 => intro W hSW; go_simp; try rfl
  try simp only [Act.put, List.setIfInBounds_toArray, List.set_cons_zero, List.set_cons_succ]
  refine wpAnyH_take (i := 15) (oi := ⟨some 20, _, _, _, _, _⟩) (v := ?v15_15) rfl (by kernel_rfl) (by kernel_rfl) (by kernel_rfl) (fun _ _ _ h => h) (Or.inl ⟨by rfl, ?hy15_15⟩) (by assumption) ?rest15_15
  case hy15_15 => intro W hSW; go_simp; try rfl
  try simp only [Act.put, List.setIfInBounds_toArray, List.set_cons_zero, List.set_cons_succ]
  refine wpAnyH_take (i := 16) (oi := ⟨some 21, _, _, _, _, _⟩) (v := ?v16_16) rfl (by kernel_rfl) (by kernel_rfl) (by kernel_rfl) (fun _ _ _ h => h) (Or.inl ⟨by rfl, ?hy16_16⟩) (by assumption) ?rest16_16
  case hy16_16 => intro W hSW; obtain ⟨c0, cd, ck, c3, c4, c5, c6, c7⟩ := RecAt.cells (HR.out.bel hSW); go_simp; try rfl
  try simp only [Act.put, List.setIfInBounds_toArray, List.set_cons_zero, List.set_cons_succ]
  refine wpAnyH_take (i := 17) (oi := ⟨some 22, _, _, _, _, _⟩) (v := ?v17_17) rfl (by kernel_rfl) (by kernel_rfl) (by kernel_rfl) (fun _ _ _ h => h) (Or.inl ⟨by rfl, ?hy17_17⟩) (by assumption) ?rest17_17
  case hy17_17 => intro W hSW; go_simp; try rfl
  try simp only [Act.put, List.setIfInBounds_toArray, List.set_cons_zero, List.set_cons_succ]
  refine wpAnyH_take (i := 18) (oi := ⟨some 23, _, _, _, _, _⟩) (v := ?v18_18) rfl (by kernel_rfl) (by kernel_rfl) (by kernel_rfl) (fun _ _ _ h => h) (Or.inl ⟨by rfl, ?hy18_18⟩) (by assumption) ?rest18_18
  case hy18_18 => intro W hSW; obtain ⟨c0, cd, ck, c3, c4, c5, c6, c7⟩ := RecAt.cells (HR.out.bel hSW); go_simp; try rfl
  try simp only [Act.put, List.setIfInBounds_toArray, List.set_cons_zero, List.set_cons_succ]
  refine wpAnyH_take (i := 19) (oi := ⟨some 24, _, _, _, _, _⟩) (v := ?v19_19) rfl (by kernel_rfl) (by kernel_rfl) (by kernel_rfl) (fun _ _ _ h => h) (Or.inl ⟨by rfl, ?hy19_19⟩) (by assumption) ?rest19_19
  case hy19_19 => intro W hSW; go_simp; try rfl
  try simp only [Act.put, List.setIfInBounds_toArray, List.set_cons_zero, List.set_cons_succ]
  refine wpAnyH_take (i := 20) (oi := ⟨some 25, _, _, _, _, _⟩) (v := ?v20_20) rfl (by kernel_rfl) (by kernel_rfl) (by kernel_rfl) (fun _ _ _ h => h) (Or.inl ⟨by rfl, ?hy20_20⟩) (by assumption) ?rest20_20
  case hy20_20 => intro W hSW; obtain ⟨c0, cd, ck, c3, c4, c5, c6, c7⟩ := RecAt.cells (HR.out.bel hSW); go_simp; try rfl
  try simp only [Act.put, List.setIfInBounds_toArray, List.set_cons_zero, List.set_cons_succ]
  refine wpAnyH_take (i := 21) (oi := ⟨some 26, _, _, _, _, _⟩) (v := ?v21_21) rfl (by kernel_rfl) (by kernel_rfl) (by kernel_rfl) (fun _ _ _ h => h) (Or.inl ⟨by rfl, ?hy21_21⟩) (by assumption) ?rest21_21
  case hy21_21 => intro W hSW; go_simp; try rfl
  try simp only [Act.put, List.setIfInBounds_toArray, List.set_cons_zero, List.set_cons_succ]
  refine wpAnyH_take (i := 22) (oi := ⟨some 27, _, _, _, _, _⟩) (v := ?v22_22) rfl (by kernel_rfl) (by kernel_rfl) (by kernel_rfl) (fun _ _ _ h => h) (Or.inl ⟨by rfl, ?hy22_22⟩) (by assumption) ?rest22_22
  case hy22_22 => intro W hSW; go_simp; try rfl
  try simp only [Act.put, List.setIfInBounds_toArray, List.set_cons_zero, List.set_cons_succ]
  refine wpAnyH_take (i := 23) (oi := ⟨some 28, _, _, _, _, _⟩) (v := ?v23_23) rfl (by kernel_rfl) (by kernel_rfl) (by kernel_rfl) (fun _ _ _ h => h) (Or.inl ⟨by rfl, ?hy23_23⟩) (by assumption) ?rest23_23
  case hy23_23 => intro W hSW; obtain ⟨c0, cd, ck, c3, c4, c5, c6, c7⟩ := RecAt.cells (HR.out.bel hSW); go_simp; try rfl
  try simp only [Act.put, List.setIfInBounds_toArray, List.set_cons_zero, List.set_cons_succ]
  refine wpAnyH_take (i := 26) (oi := ⟨some 31, _, _, _, _, _⟩) (v := ?v26_24) rfl (by kernel_rfl) (by kernel_rfl) (by kernel_rfl) (fun _ _ _ h => h) (Or.inl ⟨by rfl, ?hy26_24⟩) (by assumption) ?rest26_24
  case hy26_24 => intro W hSW; go_simp; try rfl
  try simp only [Act.put, List.setIfInBounds_toArray, List.set_cons_zero, List.set_cons_succ]
  refine wpAnyH_take (i := 27) (oi := ⟨some 32, _, _, _, _, _⟩) (v := ?v27_25) rfl (by kernel_rfl) (by kernel_rfl) (by kernel_rfl) (fun _ _ _ h => h) (Or.inl ⟨by rfl, ?hy27_25⟩) (by assumption) ?rest27_25
  case hy27_25 => intro W hSW; obtain ⟨c0, cd, ck, c3, c4, c5, c6, c7⟩ := RecAt.cells (HR.out.bel hSW); go_simp; try rfl
  try simp only [Act.put, List.setIfInBounds_toArray, List.set_cons_zero, List.set_cons_succ]
  refine wpAnyH_ready (rs := [1, 28]) (by kernel_rfl) (by simp) ?_
  refine (AllReadyH.cons (o := ⟨some 6, _, _, _, _, _⟩) rfl (fun K hK => ?_) (AllReadyH.cons (o := ⟨some 33, _, _, _, _, _⟩) rfl (fun K hK => ?_) AllReadyH.nil))
  · go_simp
    refine (HF.out _).mono ?_
    rintro e _ ⟨rfl, rfl⟩
    have hb := Below.refl wd.heap.size wd
    refine hK.out _ _ ?_ (fun hHeld2 => ?_)
    · exact bel_after hHeld (Nat.le_refl _) hb
    clear hK K hHeld
    have hHeld := hHeld2; clear hHeld2
    try simp only [Act.put, List.setIfInBounds_toArray, List.set_cons_zero, List.set_cons_succ]
    clear hb
    refine wpAnyH_ready (rs := [24, 28]) (by kernel_rfl) (by simp) ?_
    refine (AllReadyH.cons (o := ⟨some 29, _, _, _, _, _⟩) rfl (fun K hK => ?_) (AllReadyH.cons (o := ⟨some 33, _, _, _, _, _⟩) rfl (fun K hK => ?_) AllReadyH.nil))
    · go_simp
      have NW : Whole (wd.alloc (.cells (List.toArray (Value.int IntKind.i64 4 :: Value.int IntKind.i64 33639248 :: Value.int IntKind.i64 2 :: Value.int IntKind.i64 20 :: Value.int IntKind.i64 2 :: Value.int IntKind.i64 20 :: Value.int IntKind.i64 2 :: Value.int IntKind.i64 f :: Value.int IntKind.i64 2 :: Value.int IntKind.i64 me :: Value.int IntKind.i64 2 :: Value.int IntKind.i64 (cl : Int) :: Value.int IntKind.i64 2 :: Value.int IntKind.i64 (da : Int) :: Value.int IntKind.i64 4 :: Value.int IntKind.i64 (su : Int) :: Value.int IntKind.i64 4 :: Value.int IntKind.i64 pa :: Value.int IntKind.i64 4 :: Value.int IntKind.i64 si :: Value.int IntKind.i64 2 :: Value.int IntKind.i64 (na.size : Int) :: Value.int IntKind.i64 2 :: Value.int IntKind.i64 0 :: Value.int IntKind.i64 2 :: Value.int IntKind.i64 0 :: Value.int IntKind.i64 2 :: Value.int IntKind.i64 0 :: Value.int IntKind.i64 2 :: Value.int IntKind.i64 0 :: Value.int IntKind.i64 4 :: Value.int IntKind.i64 0 :: Value.int IntKind.i64 4 :: Value.int IntKind.i64 of :: [])) 3)) wd.heap.size 3 (iv (fl [(4, 33639248), (2, 20), (2, 20), (2, f), (2, me), (2, (cl : Int)), (2, (da : Int)), (4, (su : Int)), (4, pa), (4, si), (2, (na.size : Int)), (2, 0), (2, 0), (2, 0), (2, 0), (4, 0), (4, of)])).toArray := Whole.new wd 3 (iv (fl [(4, 33639248), (2, 20), (2, 20), (2, f), (2, me), (2, (cl : Int)), (2, (da : Int)), (4, (su : Int)), (4, pa), (4, si), (2, (na.size : Int)), (2, 0), (2, 0), (2, 0), (2, 0), (4, 0), (4, of)])).toArray
      have hb : Below wd.heap.size wd (wd.alloc (.cells (List.toArray (Value.int IntKind.i64 4 :: Value.int IntKind.i64 33639248 :: Value.int IntKind.i64 2 :: Value.int IntKind.i64 20 :: Value.int IntKind.i64 2 :: Value.int IntKind.i64 20 :: Value.int IntKind.i64 2 :: Value.int IntKind.i64 f :: Value.int IntKind.i64 2 :: Value.int IntKind.i64 me :: Value.int IntKind.i64 2 :: Value.int IntKind.i64 (cl : Int) :: Value.int IntKind.i64 2 :: Value.int IntKind.i64 (da : Int) :: Value.int IntKind.i64 4 :: Value.int IntKind.i64 (su : Int) :: Value.int IntKind.i64 4 :: Value.int IntKind.i64 pa :: Value.int IntKind.i64 4 :: Value.int IntKind.i64 si :: Value.int IntKind.i64 2 :: Value.int IntKind.i64 (na.size : Int) :: Value.int IntKind.i64 2 :: Value.int IntKind.i64 0 :: Value.int IntKind.i64 2 :: Value.int IntKind.i64 0 :: Value.int IntKind.i64 2 :: Value.int IntKind.i64 0 :: Value.int IntKind.i64 2 :: Value.int IntKind.i64 0 :: Value.int IntKind.i64 4 :: Value.int IntKind.i64 0 :: Value.int IntKind.i64 4 :: Value.int IntKind.i64 of :: [])) 3)) := (Below.refl wd.heap.size wd).alloc (Nat.le_refl _) _
      generalize wd.alloc _ = x27 at *
      obtain ⟨gN_27, hgN_27⟩ : ∃ g, wd.heap.size = g := ⟨_, rfl⟩
      rw [hgN_27] at NW hb ⊢
      rw [← hgN_27] at hb
      have N_27 := Lib.hid NW
      refine hK.out _ _ ?_ (fun hHeld2 => ?_)
      · exact bel_after hHeld (Nat.le_refl _) hb
      clear hK K hHeld
      have hHeld := hHeld2; clear hHeld2
      try simp only [Act.put, List.setIfInBounds_toArray, List.set_cons_zero, List.set_cons_succ]
      clear hb
      clear NW
      refine wpAnyH_ready (rs := [25, 28]) (by kernel_rfl) (by simp) ?_
      refine (AllReadyH.cons (o := ⟨some 30, _, _, _, _, _⟩) rfl (fun K hK => ?_) (AllReadyH.cons (o := ⟨some 33, _, _, _, _, _⟩) rfl (fun K hK => ?_) AllReadyH.nil))
      · go_simp
        refine (P.out x27 _ (seen_ints N_27.out rfl)).mono ?_
        rintro e x28 ⟨v1, rfl, NW, hb⟩
        have NW : OwnB x28 w0.heap.size 46 v1 L := own_base NW hHeld.size
        have N_28 := Lib.hid (Whole.bel N_27.out hb)
        have O_28 := Lib.hid NW
        refine hK.out _ _ ?_ (fun hHeld2 => ?_)
        · exact bel_after hHeld (Nat.le_refl _) hb
        clear hK K hHeld
        have hHeld := hHeld2; clear hHeld2
        try simp only [Act.put, List.setIfInBounds_toArray, List.set_cons_zero, List.set_cons_succ]
        clear hb
        clear NW
        try clear N_27
        refine wpAnyH_ready (rs := [28]) (by kernel_rfl) (by simp) ?_
        refine (AllReadyH.cons (o := ⟨some 33, _, _, _, _, _⟩) rfl (fun K hK => ?_) AllReadyH.nil)
        · refine step_conv_str _ rfl (.tmp 32) rfl na rfl ?_
          intro cs x29 hb NW
          obtain ⟨gs_29, hgs_29⟩ : ∃ g, x28.heap.size = g := ⟨_, rfl⟩
          rw [hgs_29] at NW ⊢
          have N_29 := Lib.hid (Whole.bel N_28.out hb)
          have O_29 := Lib.hid (OwnB.bel O_28.out hb)
          have Q_29 := Lib.hid NW
          refine hK.out _ _ ?_ (fun hHeld2 => ?_)
          · exact bel_after hHeld (Nat.le_refl _) hb
          clear hK K hHeld
          have hHeld := hHeld2; clear hHeld2
          try simp only [Act.put, List.setIfInBounds_toArray, List.set_cons_zero, List.set_cons_succ]
          clear hb
          clear NW
          try clear N_28
          try clear O_28
          refine wpAnyH_ready (rs := [29]) (by kernel_rfl) (by simp) ?_
          refine (AllReadyH.cons (o := ⟨some 34, _, _, _, _, _⟩) rfl (fun K hK => ?_) AllReadyH.nil)
          · refine step_append_seen _ rfl (.tmp 30) (.tmp 33) 29 rfl w0.heap.size 5 i0 _ 1 1 Try.underlying29 hi0 hz0 hz1 hz2 rfl (by omega) v1 46 (bv L) rfl O_29.out _ _ na.size cs (bv (strL na)) rfl Q_29.out (bv_oneCell _) (by simp only [maxLen]; omega) (by omega) hHeld.size ?_
            intro v8 x30 ho8 hg8 _
            have hb8 := hHeld.grown hg8 hHeld.size (fun k hk => (own_whole O_29.out hk).1)
            refine hK.out _ _ ?_ (fun hHeld2 => ?_)
            · exact hb8
            clear hK K hHeld
            have hHeld := hHeld2; clear hHeld2
            try simp only [Act.put, List.setIfInBounds_toArray, List.set_cons_zero, List.set_cons_succ]
            try clear N_29
            try clear O_29
            try clear Q_29
            refine wpAnyH_take (i := 30) (oi := ⟨some 4, _, _, _, _, _⟩) (v := ?v30_31) rfl (by kernel_rfl) (by kernel_rfl) (by kernel_rfl) (fun _ _ _ h => h) (Or.inl ⟨by rfl, ?hy30_31⟩) (by assumption) ?rest30_31
            case hy30_31 => intro W hSW; go_simp; try rfl
            try simp only [Act.put, List.setIfInBounds_toArray, List.set_cons_zero, List.set_cons_succ]
            refine wpAnyH_done (by kernel_rfl) ?_ _
            go_wp2_with fail
            go_ret
            refine ⟨v8, rfl, ?_, bel_after B0.out (Nat.le_refl _) (hHeld)⟩
            rw [bv_append]
            exact own_base ho8 B0.out.size
      · refine step_conv_str _ rfl (.tmp 32) rfl na rfl ?_
        intro cs x32 hb NW
        obtain ⟨gs_32, hgs_32⟩ : ∃ g, x27.heap.size = g := ⟨_, rfl⟩
        rw [hgs_32] at NW ⊢
        have N_32 := Lib.hid (Whole.bel N_27.out hb)
        have Q_32 := Lib.hid NW
        refine hK.out _ _ ?_ (fun hHeld2 => ?_)
        · exact bel_after hHeld (Nat.le_refl _) hb
        clear hK K hHeld
        have hHeld := hHeld2; clear hHeld2
        try simp only [Act.put, List.setIfInBounds_toArray, List.set_cons_zero, List.set_cons_succ]
        clear hb
        clear NW
        try clear N_27
        refine wpAnyH_ready (rs := [25]) (by kernel_rfl) (by simp) ?_
        refine (AllReadyH.cons (o := ⟨some 30, _, _, _, _, _⟩) rfl (fun K hK => ?_) AllReadyH.nil)
        · go_simp
          refine (P.out x32 _ (seen_ints N_32.out rfl)).mono ?_
          rintro e x33 ⟨v1, rfl, NW, hb⟩
          have NW : OwnB x33 w0.heap.size 46 v1 L := own_base NW hHeld.size
          have N_33 := Lib.hid (Whole.bel N_32.out hb)
          have Q_33 := Lib.hid (Seen.bel Q_32.out hb)
          have O_33 := Lib.hid NW
          refine hK.out _ _ ?_ (fun hHeld2 => ?_)
          · exact bel_after hHeld (Nat.le_refl _) hb
          clear hK K hHeld
          have hHeld := hHeld2; clear hHeld2
          try simp only [Act.put, List.setIfInBounds_toArray, List.set_cons_zero, List.set_cons_succ]
          clear hb
          clear NW
          try clear N_32
          try clear Q_32
          refine wpAnyH_ready (rs := [29]) (by kernel_rfl) (by simp) ?_
          refine (AllReadyH.cons (o := ⟨some 34, _, _, _, _, _⟩) rfl (fun K hK => ?_) AllReadyH.nil)
          · refine step_append_seen _ rfl (.tmp 30) (.tmp 33) 29 rfl w0.heap.size 5 i0 _ 1 1 Try.underlying29 hi0 hz0 hz1 hz2 rfl (by omega) v1 46 (bv L) rfl O_33.out _ _ na.size cs (bv (strL na)) rfl Q_33.out (bv_oneCell _) (by simp only [maxLen]; omega) (by omega) hHeld.size ?_
            intro v8 x34 ho8 hg8 _
            have hb8 := hHeld.grown hg8 hHeld.size (fun k hk => (own_whole O_33.out hk).1)
            refine hK.out _ _ ?_ (fun hHeld2 => ?_)
            · exact hb8
            clear hK K hHeld
            have hHeld := hHeld2; clear hHeld2
            try simp only [Act.put, List.setIfInBounds_toArray, List.set_cons_zero, List.set_cons_succ]
            try clear N_33
            try clear Q_33
            try clear O_33
            refine wpAnyH_take (i := 30) (oi := ⟨some 4, _, _, _, _, _⟩) (v := ?v30_35) rfl (by kernel_rfl) (by kernel_rfl) (by kernel_rfl) (fun _ _ _ h => h) (Or.inl ⟨by rfl, ?hy30_35⟩) (by assumption) ?rest30_35
            case hy30_35 => intro W hSW; go_simp; try rfl
            try simp only [Act.put, List.setIfInBounds_toArray, List.set_cons_zero, List.set_cons_succ]
            refine wpAnyH_done (by kernel_rfl) ?_ _
            go_wp2_with fail
            go_ret
            refine ⟨v8, rfl, ?_, bel_after B0.out (Nat.le_refl _) (hHeld)⟩
            rw [bv_append]
            exact own_base ho8 B0.out.size
    · refine step_conv_str _ rfl (.tmp 32) rfl na rfl ?_
      intro cs x36 hb NW
      obtain ⟨gs_36, hgs_36⟩ : ∃ g, wd.heap.size = g := ⟨_, rfl⟩
      rw [hgs_36] at NW ⊢
      have Q_36 := Lib.hid NW
      refine hK.out _ _ ?_ (fun hHeld2 => ?_)
      · exact bel_after hHeld (Nat.le_refl _) hb
      clear hK K hHeld
      have hHeld := hHeld2; clear hHeld2
      try simp only [Act.put, List.setIfInBounds_toArray, List.set_cons_zero, List.set_cons_succ]
      clear hb
      clear NW
      refine wpAnyH_ready (rs := [24]) (by kernel_rfl) (by simp) ?_
      refine (AllReadyH.cons (o := ⟨some 29, _, _, _, _, _⟩) rfl (fun K hK => ?_) AllReadyH.nil)
      · go_simp
        have NW : Whole (x36.alloc (.cells (List.toArray (Value.int IntKind.i64 4 :: Value.int IntKind.i64 33639248 :: Value.int IntKind.i64 2 :: Value.int IntKind.i64 20 :: Value.int IntKind.i64 2 :: Value.int IntKind.i64 20 :: Value.int IntKind.i64 2 :: Value.int IntKind.i64 f :: Value.int IntKind.i64 2 :: Value.int IntKind.i64 me :: Value.int IntKind.i64 2 :: Value.int IntKind.i64 (cl : Int) :: Value.int IntKind.i64 2 :: Value.int IntKind.i64 (da : Int) :: Value.int IntKind.i64 4 :: Value.int IntKind.i64 (su : Int) :: Value.int IntKind.i64 4 :: Value.int IntKind.i64 pa :: Value.int IntKind.i64 4 :: Value.int IntKind.i64 si :: Value.int IntKind.i64 2 :: Value.int IntKind.i64 (na.size : Int) :: Value.int IntKind.i64 2 :: Value.int IntKind.i64 0 :: Value.int IntKind.i64 2 :: Value.int IntKind.i64 0 :: Value.int IntKind.i64 2 :: Value.int IntKind.i64 0 :: Value.int IntKind.i64 2 :: Value.int IntKind.i64 0 :: Value.int IntKind.i64 4 :: Value.int IntKind.i64 0 :: Value.int IntKind.i64 4 :: Value.int IntKind.i64 of :: [])) 3)) x36.heap.size 3 (iv (fl [(4, 33639248), (2, 20), (2, 20), (2, f), (2, me), (2, (cl : Int)), (2, (da : Int)), (4, (su : Int)), (4, pa), (4, si), (2, (na.size : Int)), (2, 0), (2, 0), (2, 0), (2, 0), (4, 0), (4, of)])).toArray := Whole.new x36 3 (iv (fl [(4, 33639248), (2, 20), (2, 20), (2, f), (2, me), (2, (cl : Int)), (2, (da : Int)), (4, (su : Int)), (4, pa), (4, si), (2, (na.size : Int)), (2, 0), (2, 0), (2, 0), (2, 0), (4, 0), (4, of)])).toArray
        have hb : Below x36.heap.size x36 (x36.alloc (.cells (List.toArray (Value.int IntKind.i64 4 :: Value.int IntKind.i64 33639248 :: Value.int IntKind.i64 2 :: Value.int IntKind.i64 20 :: Value.int IntKind.i64 2 :: Value.int IntKind.i64 20 :: Value.int IntKind.i64 2 :: Value.int IntKind.i64 f :: Value.int IntKind.i64 2 :: Value.int IntKind.i64 me :: Value.int IntKind.i64 2 :: Value.int IntKind.i64 (cl : Int) :: Value.int IntKind.i64 2 :: Value.int IntKind.i64 (da : Int) :: Value.int IntKind.i64 4 :: Value.int IntKind.i64 (su : Int) :: Value.int IntKind.i64 4 :: Value.int IntKind.i64 pa :: Value.int IntKind.i64 4 :: Value.int IntKind.i64 si :: Value.int IntKind.i64 2 :: Value.int IntKind.i64 (na.size : Int) :: Value.int IntKind.i64 2 :: Value.int IntKind.i64 0 :: Value.int IntKind.i64 2 :: Value.int IntKind.i64 0 :: Value.int IntKind.i64 2 :: Value.int IntKind.i64 0 :: Value.int IntKind.i64 2 :: Value.int IntKind.i64 0 :: Value.int IntKind.i64 4 :: Value.int IntKind.i64 0 :: Value.int IntKind.i64 4 :: Value.int IntKind.i64 of :: [])) 3)) := (Below.refl x36.heap.size x36).alloc (Nat.le_refl _) _
        generalize x36.alloc _ = x37 at *
        obtain ⟨gN_37, hgN_37⟩ : ∃ g, x36.heap.size = g := ⟨_, rfl⟩
        rw [hgN_37] at NW hb ⊢
        rw [← hgN_37] at hb
        have Q_37 := Lib.hid (Seen.bel Q_36.out hb)
        have N_37 := Lib.hid NW
        refine hK.out _ _ ?_ (fun hHeld2 => ?_)
        · exact bel_after hHeld (Nat.le_refl _) hb
        clear hK K hHeld
        have hHeld := hHeld2; clear hHeld2
        try simp only [Act.put, List.setIfInBounds_toArray, List.set_cons_zero, List.set_cons_succ]
        clear hb
        clear NW
        try clear Q_36
        refine wpAnyH_ready (rs := [25]) (by kernel_rfl) (by simp) ?_
        refine (AllReadyH.cons (o := ⟨some 30, _, _, _, _, _⟩) rfl (fun K hK => ?_) AllReadyH.nil)
        · go_simp
          refine (P.out x37 _ (seen_ints N_37.out rfl)).mono ?_
          rintro e x38 ⟨v1, rfl, NW, hb⟩
          have NW : OwnB x38 w0.heap.size 46 v1 L := own_base NW hHeld.size
          have Q_38 := Lib.hid (Seen.bel Q_37.out hb)
          have N_38 := Lib.hid (Whole.bel N_37.out hb)
          have O_38 := Lib.hid NW
          refine hK.out _ _ ?_ (fun hHeld2 => ?_)
          · exact bel_after hHeld (Nat.le_refl _) hb
          clear hK K hHeld
          have hHeld := hHeld2; clear hHeld2
          try simp only [Act.put, List.setIfInBounds_toArray, List.set_cons_zero, List.set_cons_succ]
          clear hb
          clear NW
          try clear Q_37
          try clear N_37
          refine wpAnyH_ready (rs := [29]) (by kernel_rfl) (by simp) ?_
          refine (AllReadyH.cons (o := ⟨some 34, _, _, _, _, _⟩) rfl (fun K hK => ?_) AllReadyH.nil)
          · refine step_append_seen _ rfl (.tmp 30) (.tmp 33) 29 rfl w0.heap.size 5 i0 _ 1 1 Try.underlying29 hi0 hz0 hz1 hz2 rfl (by omega) v1 46 (bv L) rfl O_38.out _ _ na.size cs (bv (strL na)) rfl Q_38.out (bv_oneCell _) (by simp only [maxLen]; omega) (by omega) hHeld.size ?_
            intro v8 x39 ho8 hg8 _
            have hb8 := hHeld.grown hg8 hHeld.size (fun k hk => (own_whole O_38.out hk).1)
            refine hK.out _ _ ?_ (fun hHeld2 => ?_)
            · exact hb8
            clear hK K hHeld
            have hHeld := hHeld2; clear hHeld2
            try simp only [Act.put, List.setIfInBounds_toArray, List.set_cons_zero, List.set_cons_succ]
            try clear Q_38
            try clear N_38
            try clear O_38
            refine wpAnyH_take (i := 30) (oi := ⟨some 4, _, _, _, _, _⟩) (v := ?v30_40) rfl (by kernel_rfl) (by kernel_rfl) (by kernel_rfl) (fun _ _ _ h => h) (Or.inl ⟨by rfl, ?hy30_40⟩) (by assumption) ?rest30_40
            case hy30_40 => intro W hSW; go_simp; try rfl
            try simp only [Act.put, List.setIfInBounds_toArray, List.set_cons_zero, List.set_cons_succ]
            refine wpAnyH_done (by kernel_rfl) ?_ _
            go_wp2_with fail
            go_ret
            refine ⟨v8, rfl, ?_, bel_after B0.out (Nat.le_refl _) (hHeld)⟩
            rw [bv_append]
            exact own_base ho8 B0.out.size
  · refine step_conv_str _ rfl (.tmp 32) rfl na rfl ?_
    intro cs x41 hb NW
    obtain ⟨gs_41, hgs_41⟩ : ∃ g, wd.heap.size = g := ⟨_, rfl⟩
    rw [hgs_41] at NW ⊢
    have Q_41 := Lib.hid NW
    refine hK.out _ _ ?_ (fun hHeld2 => ?_)
    · exact bel_after hHeld (Nat.le_refl _) hb
    clear hK K hHeld
    have hHeld := hHeld2; clear hHeld2
    try simp only [Act.put, List.setIfInBounds_toArray, List.set_cons_zero, List.set_cons_succ]
    clear hb
    clear NW
    refine wpAnyH_ready (rs := [1]) (by kernel_rfl) (by simp) ?_
    refine (AllReadyH.cons (o := ⟨some 6, _, _, _, _, _⟩) rfl (fun K hK => ?_) AllReadyH.nil)
    · go_simp
      refine (HF.out _).mono ?_
      rintro e _ ⟨rfl, rfl⟩
      have hb := Below.refl x41.heap.size x41
      have Q_42 := Lib.hid (Seen.bel Q_41.out hb)
      refine hK.out _ _ ?_ (fun hHeld2 => ?_)
      · exact bel_after hHeld (Nat.le_refl _) hb
      clear hK K hHeld
      have hHeld := hHeld2; clear hHeld2
      try simp only [Act.put, List.setIfInBounds_toArray, List.set_cons_zero, List.set_cons_succ]
      clear hb
      try clear Q_41
      refine wpAnyH_ready (rs := [24]) (by kernel_rfl) (by simp) ?_
      refine (AllReadyH.cons (o := ⟨some 29, _, _, _, _, _⟩) rfl (fun K hK => ?_) AllReadyH.nil)
      · go_simp
        have NW : Whole (x41.alloc (.cells (List.toArray (Value.int IntKind.i64 4 :: Value.int IntKind.i64 33639248 :: Value.int IntKind.i64 2 :: Value.int IntKind.i64 20 :: Value.int IntKind.i64 2 :: Value.int IntKind.i64 20 :: Value.int IntKind.i64 2 :: Value.int IntKind.i64 f :: Value.int IntKind.i64 2 :: Value.int IntKind.i64 me :: Value.int IntKind.i64 2 :: Value.int IntKind.i64 (cl : Int) :: Value.int IntKind.i64 2 :: Value.int IntKind.i64 (da : Int) :: Value.int IntKind.i64 4 :: Value.int IntKind.i64 (su : Int) :: Value.int IntKind.i64 4 :: Value.int IntKind.i64 pa :: Value.int IntKind.i64 4 :: Value.int IntKind.i64 si :: Value.int IntKind.i64 2 :: Value.int IntKind.i64 (na.size : Int) :: Value.int IntKind.i64 2 :: Value.int IntKind.i64 0 :: Value.int IntKind.i64 2 :: Value.int IntKind.i64 0 :: Value.int IntKind.i64 2 :: Value.int IntKind.i64 0 :: Value.int IntKind.i64 2 :: Value.int IntKind.i64 0 :: Value.int IntKind.i64 4 :: Value.int IntKind.i64 0 :: Value.int IntKind.i64 4 :: Value.int IntKind.i64 of :: [])) 3)) x41.heap.size 3 (iv (fl [(4, 33639248), (2, 20), (2, 20), (2, f), (2, me), (2, (cl : Int)), (2, (da : Int)), (4, (su : Int)), (4, pa), (4, si), (2, (na.size : Int)), (2, 0), (2, 0), (2, 0), (2, 0), (4, 0), (4, of)])).toArray := Whole.new x41 3 (iv (fl [(4, 33639248), (2, 20), (2, 20), (2, f), (2, me), (2, (cl : Int)), (2, (da : Int)), (4, (su : Int)), (4, pa), (4, si), (2, (na.size : Int)), (2, 0), (2, 0), (2, 0), (2, 0), (4, 0), (4, of)])).toArray
        have hb : Below x41.heap.size x41 (x41.alloc (.cells (List.toArray (Value.int IntKind.i64 4 :: Value.int IntKind.i64 33639248 :: Value.int IntKind.i64 2 :: Value.int IntKind.i64 20 :: Value.int IntKind.i64 2 :: Value.int IntKind.i64 20 :: Value.int IntKind.i64 2 :: Value.int IntKind.i64 f :: Value.int IntKind.i64 2 :: Value.int IntKind.i64 me :: Value.int IntKind.i64 2 :: Value.int IntKind.i64 (cl : Int) :: Value.int IntKind.i64 2 :: Value.int IntKind.i64 (da : Int) :: Value.int IntKind.i64 4 :: Value.int IntKind.i64 (su : Int) :: Value.int IntKind.i64 4 :: Value.int IntKind.i64 pa :: Value.int IntKind.i64 4 :: Value.int IntKind.i64 si :: Value.int IntKind.i64 2 :: Value.int IntKind.i64 (na.size : Int) :: Value.int IntKind.i64 2 :: Value.int IntKind.i64 0 :: Value.int IntKind.i64 2 :: Value.int IntKind.i64 0 :: Value.int IntKind.i64 2 :: Value.int IntKind.i64 0 :: Value.int IntKind.i64 2 :: Value.int IntKind.i64 0 :: Value.int IntKind.i64 4 :: Value.int IntKind.i64 0 :: Value.int IntKind.i64 4 :: Value.int IntKind.i64 of :: [])) 3)) := (Below.refl x41.heap.size x41).alloc (Nat.le_refl _) _
        generalize x41.alloc _ = x43 at *
        obtain ⟨gN_43, hgN_43⟩ : ∃ g, x41.heap.size = g := ⟨_, rfl⟩
        rw [hgN_43] at NW hb ⊢
        rw [← hgN_43] at hb
        have Q_43 := Lib.hid (Seen.bel Q_42.out hb)
        have N_43 := Lib.hid NW
        refine hK.out _ _ ?_ (fun hHeld2 => ?_)
        · exact bel_after hHeld (Nat.le_refl _) hb
        clear hK K hHeld
        have hHeld := hHeld2; clear hHeld2
        try simp only [Act.put, List.setIfInBounds_toArray, List.set_cons_zero, List.set_cons_succ]
        clear hb
        clear NW
        try clear Q_42
        refine wpAnyH_ready (rs := [25]) (by kernel_rfl) (by simp) ?_
        refine (AllReadyH.cons (o := ⟨some 30, _, _, _, _, _⟩) rfl (fun K hK => ?_) AllReadyH.nil)
        · go_simp
          refine (P.out x43 _ (seen_ints N_43.out rfl)).mono ?_
          rintro e x44 ⟨v1, rfl, NW, hb⟩
          have NW : OwnB x44 w0.heap.size 46 v1 L := own_base NW hHeld.size
          have Q_44 := Lib.hid (Seen.bel Q_43.out hb)
          have N_44 := Lib.hid (Whole.bel N_43.out hb)
          have O_44 := Lib.hid NW
          refine hK.out _ _ ?_ (fun hHeld2 => ?_)
          · exact bel_after hHeld (Nat.le_refl _) hb
          clear hK K hHeld
          have hHeld := hHeld2; clear hHeld2
          try simp only [Act.put, List.setIfInBounds_toArray, List.set_cons_zero, List.set_cons_succ]
          clear hb
          clear NW
          try clear Q_43
          try clear N_43
          refine wpAnyH_ready (rs := [29]) (by kernel_rfl) (by simp) ?_
          refine (AllReadyH.cons (o := ⟨some 34, _, _, _, _, _⟩) rfl (fun K hK => ?_) AllReadyH.nil)
          · refine step_append_seen _ rfl (.tmp 30) (.tmp 33) 29 rfl w0.heap.size 5 i0 _ 1 1 Try.underlying29 hi0 hz0 hz1 hz2 rfl (by omega) v1 46 (bv L) rfl O_44.out _ _ na.size cs (bv (strL na)) rfl Q_44.out (bv_oneCell _) (by simp only [maxLen]; omega) (by omega) hHeld.size ?_
            intro v8 x45 ho8 hg8 _
            have hb8 := hHeld.grown hg8 hHeld.size (fun k hk => (own_whole O_44.out hk).1)
            refine hK.out _ _ ?_ (fun hHeld2 => ?_)
            · exact hb8
            clear hK K hHeld
            have hHeld := hHeld2; clear hHeld2
            try simp only [Act.put, List.setIfInBounds_toArray, List.set_cons_zero, List.set_cons_succ]
            try clear Q_44
            try clear N_44
            try clear O_44
            refine wpAnyH_take (i := 30) (oi := ⟨some 4, _, _, _, _, _⟩) (v := ?v30_46) rfl (by kernel_rfl) (by kernel_rfl) (by kernel_rfl) (fun _ _ _ h => h) (Or.inl ⟨by rfl, ?hy30_46⟩) (by assumption) ?rest30_46
            case hy30_46 => intro W hSW; go_simp; try rfl
            try simp only [Act.put, List.setIfInBounds_toArray, List.set_cons_zero, List.set_cons_succ]
            refine wpAnyH_done (by kernel_rfl) ?_ _
            go_wp2_with fail
            go_ret
            refine ⟨v8, rfl, ?_, bel_after B0.out (Nat.le_refl _) (hHeld)⟩
            rw [bv_append]
            exact own_base ho8 B0.out.size

set_option linter.unusedSimpArgs false in
set_option maxHeartbeats 4000000 in
theorem refLocal_any (me : Int) (da cl su : Nat) (pa si : Int) (na : ByteArray) (of : Int) (hr : RecIn ⟨me, da, cl, su, pa, si, na, of⟩) (hna : na.size ≤ 1000) (be : Bool) (w : World) :
    Calls Try.prog 8 #[.agg #[.int .i64 me, .int .u16 da, .int .u16 cl, .int .u32 su, .int .i64 pa, .int .i64 si, .string na, .int .i64 of], .bool be] w (GivesRow w 5 1 (30 + na.size) (bv (localL ⟨me, da, cl, su, pa, si, na, of⟩ be))) := by
  obtain ⟨i0, hi0, hz0, hz1, hz2⟩ := info_parts byte_info
  cases be
  · obtain ⟨L, hL⟩ : ∃ l, putL [67324752] 4 ++ putL [20] 2 ++ sharedL (told ⟨me, da, cl, su, pa, si, na, of⟩ false) false = l := ⟨_, rfl⟩
    have hn : L.length = 30 := by rw [← hL]; simp [putL_length, sharedL_length]
    have hX := shared_pairs me da cl su pa si na of false
    rw [show (⟨me, da, cl, su, pa, si, na, of⟩ : Rec) = told ⟨me, da, cl, su, pa, si, na, of⟩ false from rfl, hL] at hX
    have HF : Hid (∀ W, Calls Try.prog 30 #[.bool false] W fun e w' => e = .returned (.int .i64 0) ∧ W = w') := Lib.hid (fun W => refFlags_any false W)
    have P := Lib.hid (fun W An hN => refPut_any An 22 W.heap.size 22 [(4, 67324752), (2, 20), (2, 0), (2, me), (2, (cl : Int)), (2, (da : Int)), (4, (su : Int)), (4, pa), (4, si), (2, (na.size : Int)), (2, 0)] (by simp) rfl (by omega) W hN (Nat.le_refl _) _ hX 30 hn)
    have hC : localL ⟨me, da, cl, su, pa, si, na, of⟩ false = L ++ strL na := by rw [← hL]; rfl
    rw [hC]
    have w3 := nat_wrap64 (n := su) (by have := hr.su; simp only at this; omega)
    have w2 := nat_wrap64 (n := cl) (by have := hr.cl; simp only at this; omega)
    have w1' := nat_wrap64 (n := da) (by have := hr.da; simp only at this; omega)
    clear hL hX hn hC hr
    go_enter Try.func8, Try.ntmps8
    go_upto_region 1 with fail
    have HR := Lib.hid (RecAt.new w ⟨me, da, cl, su, pa, si, na, of⟩)
    have B0 := Lib.hid ((Below.refl w.heap.size w).alloc (Nat.le_refl _) (.cells (recC ⟨me, da, cl, su, pa, si, na, of⟩) 27))
    simp only [recC] at HR B0
    generalize w.alloc _ = w0 at HR B0 ⊢
    obtain ⟨gb, hgb⟩ : ∃ gb, w.heap.size = gb := ⟨_, rfl⟩
    rw [hgb] at HR ⊢
    rw [← hgb]
    refine wp_region_held_drew (S := (fun W => Below w0.heap.size w0 W)) (by kernel_rfl) (Below.refl _ _).drew (fun hHeld => ?_)
    have hHeld0 := hHeld
    generalize hwd : w0.drew = wd at *
    clear hwd hHeld0
    refine wpAnyH_take (i := 0) (oi := ⟨some 8, _, _, _, _, _⟩) (v := ?vuf0_1) rfl (by kernel_rfl) (by kernel_rfl) (by kernel_rfl) (fun _ _ _ h => h) (Or.inl ⟨by rfl, ?hyuf0_1⟩) (by assumption) ?restuf0_1
    case hyuf0_1 => intro W hSW; go_simp; try rfl
    try simp only [Act.put, List.setIfInBounds_toArray, List.set_cons_zero, List.set_cons_succ]
    refine wpAnyH_take (i := 1) (oi := ⟨some 9, _, _, _, _, _⟩) (v := ?vuf1_2) rfl (by kernel_rfl) (by kernel_rfl) (by kernel_rfl) (fun _ _ _ h => h) (Or.inl ⟨by rfl, ?hyuf1_2⟩) (by assumption) ?restuf1_2
    case hyuf1_2 => intro W hSW; obtain ⟨c0, cd, ck, c3, c4, c5, c6, c7⟩ := RecAt.cells (HR.out.bel hSW); go_simp; try rfl
    try simp only [Act.put, List.setIfInBounds_toArray, List.set_cons_zero, List.set_cons_succ]
    refine wpAnyH_take (i := 2) (oi := ⟨some 10, _, _, _, _, _⟩) (v := ?vuf2_3) rfl (by kernel_rfl) (by kernel_rfl) (by kernel_rfl) (fun _ _ _ h => h) (Or.inl ⟨by rfl, ?hyuf2_3⟩) (by assumption) ?restuf2_3
    case hyuf2_3 => intro W hSW; go_simp; try rfl
    try simp only [Act.put, List.setIfInBounds_toArray, List.set_cons_zero, List.set_cons_succ]
    refine wpAnyH_take (i := 3) (oi := ⟨some 11, _, _, _, _, _⟩) (v := ?vuf3_4) rfl (by kernel_rfl) (by kernel_rfl) (by kernel_rfl) (fun _ _ _ h => h) (Or.inl ⟨by rfl, ?hyuf3_4⟩) (by assumption) ?restuf3_4
    case hyuf3_4 => intro W hSW; go_simp; try rfl
    try simp only [Act.put, List.setIfInBounds_toArray, List.set_cons_zero, List.set_cons_succ]
    refine wpAnyH_take (i := 4) (oi := ⟨some 12, _, _, _, _, _⟩) (v := ?vuf4_5) rfl (by kernel_rfl) (by kernel_rfl) (by kernel_rfl) (fun _ _ _ h => h) (Or.inl ⟨by rfl, ?hyuf4_5⟩) (by assumption) ?restuf4_5
    case hyuf4_5 => intro W hSW; obtain ⟨c0, cd, ck, c3, c4, c5, c6, c7⟩ := RecAt.cells (HR.out.bel hSW); go_simp; try rfl
    try simp only [Act.put, List.setIfInBounds_toArray, List.set_cons_zero, List.set_cons_succ]
    refine wpAnyH_take (i := 5) (oi := ⟨some 13, _, _, _, _, _⟩) (v := ?vuf5_6) rfl (by kernel_rfl) (by kernel_rfl) (by kernel_rfl) (fun _ _ _ h => h) (Or.inl ⟨by rfl, ?hyuf5_6⟩) (by assumption) ?restuf5_6
    case hyuf5_6 => intro W hSW; go_simp; try rfl
    try simp only [Act.put, List.setIfInBounds_toArray, List.set_cons_zero, List.set_cons_succ]
    refine wpAnyH_take (i := 6) (oi := ⟨some 14, _, _, _, _, _⟩) (v := ?vuf6_7) rfl (by kernel_rfl) (by kernel_rfl) (by kernel_rfl) (fun _ _ _ h => h) (Or.inl ⟨by rfl, ?hyuf6_7⟩) (by assumption) ?restuf6_7
    case hyuf6_7 => intro W hSW; obtain ⟨c0, cd, ck, c3, c4, c5, c6, c7⟩ := RecAt.cells (HR.out.bel hSW); go_simp; try rfl
    try simp only [Act.put, List.setIfInBounds_toArray, List.set_cons_zero, List.set_cons_succ]
    refine wpAnyH_take (i := 7) (oi := ⟨some 5, _, _, _, _, _⟩) (v := ?vuf7_8) rfl (by kernel_rfl) (by kernel_rfl) (by kernel_rfl) (fun _ _ _ h => h) (Or.inl ⟨by rfl, ?hyuf7_8⟩) (by assumption) ?restuf7_8
    case hyuf7_8 => intro W hSW; go_simp; try rfl
    try simp only [Act.put, List.setIfInBounds_toArray, List.set_cons_zero, List.set_cons_succ]
    refine wpAnyH_take (i := 8) (oi := ⟨some 6, _, _, _, _, _⟩) (v := ?vuf8_9) rfl (by kernel_rfl) (by kernel_rfl) (by kernel_rfl) (fun _ _ _ h => h) (Or.inl ⟨by rfl, ?hyuf8_9⟩) (by assumption) ?restuf8_9
    case hyuf8_9 => intro W hSW; go_simp; try rfl
    try simp only [Act.put, List.setIfInBounds_toArray, List.set_cons_zero, List.set_cons_succ]
    refine wpAnyH_take (i := 9) (oi := ⟨some 7, _, _, _, _, _⟩) (v := ?vuf9_10) rfl (by kernel_rfl) (by kernel_rfl) (by kernel_rfl) (fun _ _ _ h => h) (Or.inl ⟨by rfl, ?hyuf9_10⟩) (by assumption) ?restuf9_10
    case hyuf9_10 => intro W hSW; go_simp; try rfl
    try simp only [Act.put, List.setIfInBounds_toArray, List.set_cons_zero, List.set_cons_succ]
    refine wpAnyH_done (by kernel_rfl) ?_ _
    have R1 := Lib.hid (HR.out.bel hHeld); have B1 := Lib.hid (bel_after B0.out (Nat.le_refl _) hHeld)
    clear HR B0
    go_upto_region 4 with fail
    generalize wd = w1 at *
    clear hHeld
    refine wp_region_held_drew (S := (fun W => Below w1.heap.size w1 W)) (by kernel_rfl) (Below.refl _ _).drew (fun hHeld => ?_)
    have hHeld0 := hHeld
    generalize hwd : w1.drew = wd at *
    clear hwd hHeld0
    refine wpAnyH_take (i := 0) (oi := ⟨some 16, _, _, _, _, _⟩) (v := ?vf0_1) rfl (by kernel_rfl) (by kernel_rfl) (by kernel_rfl) (fun _ _ _ h => h) (Or.inl ⟨by rfl, ?hyf0_1⟩) (by assumption) ?restf0_1
    case hyf0_1 => intro W hSW; go_simp; try rfl
    try simp only [Act.put, List.setIfInBounds_toArray, List.set_cons_zero, List.set_cons_succ]
    refine wpAnyH_take (i := 2) (oi := ⟨some 18, _, _, _, _, _⟩) (v := ?vf2_2) rfl (by kernel_rfl) (by kernel_rfl) (by kernel_rfl) (fun _ _ _ h => h) (Or.inl ⟨by rfl, ?hyf2_2⟩) (by assumption) ?restf2_2
    case hyf2_2 => intro W hSW; go_simp; try rfl
    try simp only [Act.put, List.setIfInBounds_toArray, List.set_cons_zero, List.set_cons_succ]
    refine wpAnyH_take (i := 3) (oi := ⟨some 19, _, _, _, _, _⟩) (v := ?vf3_3) rfl (by kernel_rfl) (by kernel_rfl) (by kernel_rfl) (fun _ _ _ h => h) (Or.inl ⟨by rfl, ?hyf3_3⟩) (by assumption) ?restf3_3
    case hyf3_3 => intro W hSW; obtain ⟨c0, cd, ck, c3, c4, c5, c6, c7⟩ := RecAt.cells (R1.out.bel hSW); go_simp; try rfl
    try simp only [Act.put, List.setIfInBounds_toArray, List.set_cons_zero, List.set_cons_succ]
    refine wpAnyH_take (i := 4) (oi := ⟨some 20, _, _, _, _, _⟩) (v := ?vf4_4) rfl (by kernel_rfl) (by kernel_rfl) (by kernel_rfl) (fun _ _ _ h => h) (Or.inl ⟨by rfl, ?hyf4_4⟩) (by assumption) ?restf4_4
    case hyf4_4 => intro W hSW; go_simp; try rfl
    try simp only [Act.put, List.setIfInBounds_toArray, List.set_cons_zero, List.set_cons_succ]
    refine wpAnyH_take (i := 5) (oi := ⟨some 21, _, _, _, _, _⟩) (v := ?vf5_5) rfl (by kernel_rfl) (by kernel_rfl) (by kernel_rfl) (fun _ _ _ h => h) (Or.inl ⟨by rfl, ?hyf5_5⟩) (by assumption) ?restf5_5
    case hyf5_5 => intro W hSW; go_simp; try rfl
    try simp only [Act.put, List.setIfInBounds_toArray, List.set_cons_zero, List.set_cons_succ]
    refine wpAnyH_take (i := 6) (oi := ⟨some 22, _, _, _, _, _⟩) (v := ?vf6_6) rfl (by kernel_rfl) (by kernel_rfl) (by kernel_rfl) (fun _ _ _ h => h) (Or.inl ⟨by rfl, ?hyf6_6⟩) (by assumption) ?restf6_6
    case hyf6_6 => intro W hSW; obtain ⟨c0, cd, ck, c3, c4, c5, c6, c7⟩ := RecAt.cells (R1.out.bel hSW); go_simp; try rfl
    try simp only [Act.put, List.setIfInBounds_toArray, List.set_cons_zero, List.set_cons_succ]
    refine wpAnyH_take (i := 7) (oi := ⟨some 23, _, _, _, _, _⟩) (v := ?vf7_7) rfl (by kernel_rfl) (by kernel_rfl) (by kernel_rfl) (fun _ _ _ h => h) (Or.inl ⟨by rfl, ?hyf7_7⟩) (by assumption) ?restf7_7
    case hyf7_7 => intro W hSW; go_simp; try rfl
    try simp only [Act.put, List.setIfInBounds_toArray, List.set_cons_zero, List.set_cons_succ]
    refine wpAnyH_take (i := 8) (oi := ⟨some 24, _, _, _, _, _⟩) (v := ?vf8_8) rfl (by kernel_rfl) (by kernel_rfl) (by kernel_rfl) (fun _ _ _ h => h) (Or.inl ⟨by rfl, ?hyf8_8⟩) (by assumption) ?restf8_8
    case hyf8_8 => intro W hSW; go_simp; try rfl
    try simp only [Act.put, List.setIfInBounds_toArray, List.set_cons_zero, List.set_cons_succ]
    refine wpAnyH_take (i := 9) (oi := ⟨some 25, _, _, _, _, _⟩) (v := ?vf9_9) rfl (by kernel_rfl) (by kernel_rfl) (by kernel_rfl) (fun _ _ _ h => h) (Or.inl ⟨by rfl, ?hyf9_9⟩) (by assumption) ?restf9_9
    case hyf9_9 => intro W hSW; go_simp; try rfl
    try simp only [Act.put, List.setIfInBounds_toArray, List.set_cons_zero, List.set_cons_succ]
    refine wpAnyH_take (i := 10) (oi := ⟨some 26, _, _, _, _, _⟩) (v := ?vf10_10) rfl (by kernel_rfl) (by kernel_rfl) (by kernel_rfl) (fun _ _ _ h => h) (Or.inl ⟨by rfl, ?hyf10_10⟩) (by assumption) ?restf10_10
    case hyf10_10 => intro W hSW; obtain ⟨c0, cd, ck, c3, c4, c5, c6, c7⟩ := RecAt.cells (R1.out.bel hSW); go_simp; try rfl
    try simp only [Act.put, List.setIfInBounds_toArray, List.set_cons_zero, List.set_cons_succ]
    refine wpAnyH_take (i := 11) (oi := ⟨some 27, _, _, _, _, _⟩) (v := ?vf11_11) rfl (by kernel_rfl) (by kernel_rfl) (by kernel_rfl) (fun _ _ _ h => h) (Or.inl ⟨by rfl, ?hyf11_11⟩) (by assumption) ?restf11_11
    case hyf11_11 => intro W hSW; go_simp; try rfl
    try simp only [Act.put, List.setIfInBounds_toArray, List.set_cons_zero, List.set_cons_succ]
    refine wpAnyH_take (i := 12) (oi := ⟨some 28, _, _, _, _, _⟩) (v := ?vf12_12) rfl (by kernel_rfl) (by kernel_rfl) (by kernel_rfl) (fun _ _ _ h => h) (Or.inl ⟨by rfl, ?hyf12_12⟩) (by assumption) ?restf12_12
    case hyf12_12 => intro W hSW; go_simp; try rfl
    try simp only [Act.put, List.setIfInBounds_toArray, List.set_cons_zero, List.set_cons_succ]
    refine wpAnyH_take (i := 13) (oi := ⟨some 29, _, _, _, _, _⟩) (v := ?vf13_13) rfl (by kernel_rfl) (by kernel_rfl) (by kernel_rfl) (fun _ _ _ h => h) (Or.inl ⟨by rfl, ?hyf13_13⟩) (by assumption) ?restf13_13
    case hyf13_13 => intro W hSW; go_simp; try rfl
    try simp only [Act.put, List.setIfInBounds_toArray, List.set_cons_zero, List.set_cons_succ]
    refine wpAnyH_take (i := 14) (oi := ⟨some 30, _, _, _, _, _⟩) (v := ?vf14_14) rfl (by kernel_rfl) (by kernel_rfl) (by kernel_rfl) (fun _ _ _ h => h) (Or.inl ⟨by rfl, ?hyf14_14⟩) (by assumption) ?restf14_14
    case hyf14_14 => intro W hSW; go_simp; try rfl
    try simp only [Act.put, List.setIfInBounds_toArray, List.set_cons_zero, List.set_cons_succ]
    refine wpAnyH_take (i := 15) (oi := ⟨some 31, _, _, _, _, _⟩) (v := ?vf15_15) rfl (by kernel_rfl) (by kernel_rfl) (by kernel_rfl) (fun _ _ _ h => h) (Or.inl ⟨by rfl, ?hyf15_15⟩) (by assumption) ?restf15_15
    case hyf15_15 => intro W hSW; go_simp; try rfl
    try simp only [Act.put, List.setIfInBounds_toArray, List.set_cons_zero, List.set_cons_succ]
    refine wpAnyH_take (i := 16) (oi := ⟨some 32, _, _, _, _, _⟩) (v := ?vf16_16) rfl (by kernel_rfl) (by kernel_rfl) (by kernel_rfl) (fun _ _ _ h => h) (Or.inl ⟨by rfl, ?hyf16_16⟩) (by assumption) ?restf16_16
    case hyf16_16 => intro W hSW; obtain ⟨c0, cd, ck, c3, c4, c5, c6, c7⟩ := RecAt.cells (R1.out.bel hSW); go_simp; try rfl
    try simp only [Act.put, List.setIfInBounds_toArray, List.set_cons_zero, List.set_cons_succ]
    refine wpAnyH_take (i := 17) (oi := ⟨some 33, _, _, _, _, _⟩) (v := ?vf17_17) rfl (by kernel_rfl) (by kernel_rfl) (by kernel_rfl) (fun _ _ _ h => h) (Or.inl ⟨by rfl, ?hyf17_17⟩) (by assumption) ?restf17_17
    case hyf17_17 => intro W hSW; go_simp; try rfl
    try simp only [Act.put, List.setIfInBounds_toArray, List.set_cons_zero, List.set_cons_succ]
    refine wpAnyH_take (i := 20) (oi := ⟨some 36, _, _, _, _, _⟩) (v := ?vf20_18) rfl (by kernel_rfl) (by kernel_rfl) (by kernel_rfl) (fun _ _ _ h => h) (Or.inl ⟨by rfl, ?hyf20_18⟩) (by assumption) ?restf20_18
    case hyf20_18 => intro W hSW; go_simp; try rfl
    try simp only [Act.put, List.setIfInBounds_toArray, List.set_cons_zero, List.set_cons_succ]
    refine wpAnyH_take (i := 21) (oi := ⟨some 37, _, _, _, _, _⟩) (v := ?vf21_19) rfl (by kernel_rfl) (by kernel_rfl) (by kernel_rfl) (fun _ _ _ h => h) (Or.inl ⟨by rfl, ?hyf21_19⟩) (by assumption) ?restf21_19
    case hyf21_19 => intro W hSW; obtain ⟨c0, cd, ck, c3, c4, c5, c6, c7⟩ := RecAt.cells (R1.out.bel hSW); go_simp; try rfl
    try simp only [Act.put, List.setIfInBounds_toArray, List.set_cons_zero, List.set_cons_succ]
    refine wpAnyH_ready (rs := [1, 22]) (by kernel_rfl) (by simp) ?_
    refine (AllReadyH.cons (o := ⟨some 17, _, _, _, _, _⟩) rfl (fun K hK => ?_) (AllReadyH.cons (o := ⟨some 38, _, _, _, _, _⟩) rfl (fun K hK => ?_) AllReadyH.nil))
    · go_simp
      refine (HF.out _).mono ?_
      rintro e _ ⟨rfl, rfl⟩
      have hb := Below.refl wd.heap.size wd
      refine hK.out _ _ ?_ (fun hHeld2 => ?_)
      · exact bel_after hHeld (Nat.le_refl _) hb
      clear hK K hHeld
      have hHeld := hHeld2; clear hHeld2
      try simp only [Act.put, List.setIfInBounds_toArray, List.set_cons_zero, List.set_cons_succ]
      clear hb
      refine wpAnyH_ready (rs := [18, 22]) (by kernel_rfl) (by simp) ?_
      refine (AllReadyH.cons (o := ⟨some 34, _, _, _, _, _⟩) rfl (fun K hK => ?_) (AllReadyH.cons (o := ⟨some 38, _, _, _, _, _⟩) rfl (fun K hK => ?_) AllReadyH.nil))
      · go_simp
        have NW : Whole (wd.alloc (.cells (List.toArray (Value.int IntKind.i64 4 :: Value.int IntKind.i64 67324752 :: Value.int IntKind.i64 2 :: Value.int IntKind.i64 20 :: Value.int IntKind.i64 2 :: Value.int IntKind.i64 0 :: Value.int IntKind.i64 2 :: Value.int IntKind.i64 me :: Value.int IntKind.i64 2 :: Value.int IntKind.i64 (cl : Int) :: Value.int IntKind.i64 2 :: Value.int IntKind.i64 (da : Int) :: Value.int IntKind.i64 4 :: Value.int IntKind.i64 (su : Int) :: Value.int IntKind.i64 4 :: Value.int IntKind.i64 pa :: Value.int IntKind.i64 4 :: Value.int IntKind.i64 si :: Value.int IntKind.i64 2 :: Value.int IntKind.i64 (na.size : Int) :: Value.int IntKind.i64 2 :: Value.int IntKind.i64 0 :: [])) 3)) wd.heap.size 3 (iv (fl [(4, 67324752), (2, 20), (2, 0), (2, me), (2, (cl : Int)), (2, (da : Int)), (4, (su : Int)), (4, pa), (4, si), (2, (na.size : Int)), (2, 0)])).toArray := Whole.new wd 3 (iv (fl [(4, 67324752), (2, 20), (2, 0), (2, me), (2, (cl : Int)), (2, (da : Int)), (4, (su : Int)), (4, pa), (4, si), (2, (na.size : Int)), (2, 0)])).toArray
        have hb : Below wd.heap.size wd (wd.alloc (.cells (List.toArray (Value.int IntKind.i64 4 :: Value.int IntKind.i64 67324752 :: Value.int IntKind.i64 2 :: Value.int IntKind.i64 20 :: Value.int IntKind.i64 2 :: Value.int IntKind.i64 0 :: Value.int IntKind.i64 2 :: Value.int IntKind.i64 me :: Value.int IntKind.i64 2 :: Value.int IntKind.i64 (cl : Int) :: Value.int IntKind.i64 2 :: Value.int IntKind.i64 (da : Int) :: Value.int IntKind.i64 4 :: Value.int IntKind.i64 (su : Int) :: Value.int IntKind.i64 4 :: Value.int IntKind.i64 pa :: Value.int IntKind.i64 4 :: Value.int IntKind.i64 si :: Value.int IntKind.i64 2 :: Value.int IntKind.i64 (na.size : Int) :: Value.int IntKind.i64 2 :: Value.int IntKind.i64 0 :: [])) 3)) := (Below.refl wd.heap.size wd).alloc (Nat.le_refl _) _
        generalize wd.alloc _ = x21 at *
        obtain ⟨gN_21, hgN_21⟩ : ∃ g, wd.heap.size = g := ⟨_, rfl⟩
        rw [hgN_21] at NW hb ⊢
        rw [← hgN_21] at hb
        have N_21 := Lib.hid NW
        refine hK.out _ _ ?_ (fun hHeld2 => ?_)
        · exact bel_after hHeld (Nat.le_refl _) hb
        clear hK K hHeld
        have hHeld := hHeld2; clear hHeld2
        try simp only [Act.put, List.setIfInBounds_toArray, List.set_cons_zero, List.set_cons_succ]
        clear hb
        clear NW
        refine wpAnyH_ready (rs := [19, 22]) (by kernel_rfl) (by simp) ?_
        refine (AllReadyH.cons (o := ⟨some 35, _, _, _, _, _⟩) rfl (fun K hK => ?_) (AllReadyH.cons (o := ⟨some 38, _, _, _, _, _⟩) rfl (fun K hK => ?_) AllReadyH.nil))
        · go_simp
          refine (P.out x21 _ (seen_ints N_21.out rfl)).mono ?_
          rintro e x22 ⟨v1, rfl, NW, hb⟩
          have NW : OwnB x22 w1.heap.size 30 v1 L := own_base NW hHeld.size
          have N_22 := Lib.hid (Whole.bel N_21.out hb)
          have O_22 := Lib.hid NW
          refine hK.out _ _ ?_ (fun hHeld2 => ?_)
          · exact bel_after hHeld (Nat.le_refl _) hb
          clear hK K hHeld
          have hHeld := hHeld2; clear hHeld2
          try simp only [Act.put, List.setIfInBounds_toArray, List.set_cons_zero, List.set_cons_succ]
          clear hb
          clear NW
          try clear N_21
          refine wpAnyH_ready (rs := [22]) (by kernel_rfl) (by simp) ?_
          refine (AllReadyH.cons (o := ⟨some 38, _, _, _, _, _⟩) rfl (fun K hK => ?_) AllReadyH.nil)
          · refine step_conv_str _ rfl (.tmp 37) rfl na rfl ?_
            intro cs x23 hb NW
            obtain ⟨gs_23, hgs_23⟩ : ∃ g, x22.heap.size = g := ⟨_, rfl⟩
            rw [hgs_23] at NW ⊢
            have N_23 := Lib.hid (Whole.bel N_22.out hb)
            have O_23 := Lib.hid (OwnB.bel O_22.out hb)
            have Q_23 := Lib.hid NW
            refine hK.out _ _ ?_ (fun hHeld2 => ?_)
            · exact bel_after hHeld (Nat.le_refl _) hb
            clear hK K hHeld
            have hHeld := hHeld2; clear hHeld2
            try simp only [Act.put, List.setIfInBounds_toArray, List.set_cons_zero, List.set_cons_succ]
            clear hb
            clear NW
            try clear N_22
            try clear O_22
            refine wpAnyH_ready (rs := [23]) (by kernel_rfl) (by simp) ?_
            refine (AllReadyH.cons (o := ⟨some 39, _, _, _, _, _⟩) rfl (fun K hK => ?_) AllReadyH.nil)
            · refine step_append_seen _ rfl (.tmp 35) (.tmp 38) 29 rfl w1.heap.size 5 i0 _ 1 1 Try.underlying29 hi0 hz0 hz1 hz2 rfl (by omega) v1 30 (bv L) rfl O_23.out _ _ na.size cs (bv (strL na)) rfl Q_23.out (bv_oneCell _) (by simp only [maxLen]; omega) (by omega) hHeld.size ?_
              intro v8 x24 ho8 hg8 _
              have hb8 := hHeld.grown hg8 hHeld.size (fun k hk => (own_whole O_23.out hk).1)
              refine hK.out _ _ ?_ (fun hHeld2 => ?_)
              · exact hb8
              clear hK K hHeld
              have hHeld := hHeld2; clear hHeld2
              try simp only [Act.put, List.setIfInBounds_toArray, List.set_cons_zero, List.set_cons_succ]
              try clear N_23
              try clear O_23
              try clear Q_23
              refine wpAnyH_take (i := 24) (oi := ⟨some 4, _, _, _, _, _⟩) (v := ?vf24_25) rfl (by kernel_rfl) (by kernel_rfl) (by kernel_rfl) (fun _ _ _ h => h) (Or.inl ⟨by rfl, ?hyf24_25⟩) (by assumption) ?restf24_25
              case hyf24_25 => intro W hSW; go_simp; try rfl
              try simp only [Act.put, List.setIfInBounds_toArray, List.set_cons_zero, List.set_cons_succ]
              refine wpAnyH_done (by kernel_rfl) ?_ _
              go_wp2_with fail
              go_ret
              refine ⟨v8, rfl, ?_, bel_after B1.out (Nat.le_refl _) (hHeld)⟩
              rw [bv_append]
              exact own_base ho8 B1.out.size
        · refine step_conv_str _ rfl (.tmp 37) rfl na rfl ?_
          intro cs x26 hb NW
          obtain ⟨gs_26, hgs_26⟩ : ∃ g, x21.heap.size = g := ⟨_, rfl⟩
          rw [hgs_26] at NW ⊢
          have N_26 := Lib.hid (Whole.bel N_21.out hb)
          have Q_26 := Lib.hid NW
          refine hK.out _ _ ?_ (fun hHeld2 => ?_)
          · exact bel_after hHeld (Nat.le_refl _) hb
          clear hK K hHeld
          have hHeld := hHeld2; clear hHeld2
          try simp only [Act.put, List.setIfInBounds_toArray, List.set_cons_zero, List.set_cons_succ]
          clear hb
          clear NW
          try clear N_21
          refine wpAnyH_ready (rs := [19]) (by kernel_rfl) (by simp) ?_
          refine (AllReadyH.cons (o := ⟨some 35, _, _, _, _, _⟩) rfl (fun K hK => ?_) AllReadyH.nil)
          · go_simp
            refine (P.out x26 _ (seen_ints N_26.out rfl)).mono ?_
            rintro e x27 ⟨v1, rfl, NW, hb⟩
            have NW : OwnB x27 w1.heap.size 30 v1 L := own_base NW hHeld.size
            have N_27 := Lib.hid (Whole.bel N_26.out hb)
            have Q_27 := Lib.hid (Seen.bel Q_26.out hb)
            have O_27 := Lib.hid NW
            refine hK.out _ _ ?_ (fun hHeld2 => ?_)
            · exact bel_after hHeld (Nat.le_refl _) hb
            clear hK K hHeld
            have hHeld := hHeld2; clear hHeld2
            try simp only [Act.put, List.setIfInBounds_toArray, List.set_cons_zero, List.set_cons_succ]
            clear hb
            clear NW
            try clear N_26
            try clear Q_26
            refine wpAnyH_ready (rs := [23]) (by kernel_rfl) (by simp) ?_
            refine (AllReadyH.cons (o := ⟨some 39, _, _, _, _, _⟩) rfl (fun K hK => ?_) AllReadyH.nil)
            · refine step_append_seen _ rfl (.tmp 35) (.tmp 38) 29 rfl w1.heap.size 5 i0 _ 1 1 Try.underlying29 hi0 hz0 hz1 hz2 rfl (by omega) v1 30 (bv L) rfl O_27.out _ _ na.size cs (bv (strL na)) rfl Q_27.out (bv_oneCell _) (by simp only [maxLen]; omega) (by omega) hHeld.size ?_
              intro v8 x28 ho8 hg8 _
              have hb8 := hHeld.grown hg8 hHeld.size (fun k hk => (own_whole O_27.out hk).1)
              refine hK.out _ _ ?_ (fun hHeld2 => ?_)
              · exact hb8
              clear hK K hHeld
              have hHeld := hHeld2; clear hHeld2
              try simp only [Act.put, List.setIfInBounds_toArray, List.set_cons_zero, List.set_cons_succ]
              try clear N_27
              try clear Q_27
              try clear O_27
              refine wpAnyH_take (i := 24) (oi := ⟨some 4, _, _, _, _, _⟩) (v := ?vf24_29) rfl (by kernel_rfl) (by kernel_rfl) (by kernel_rfl) (fun _ _ _ h => h) (Or.inl ⟨by rfl, ?hyf24_29⟩) (by assumption) ?restf24_29
              case hyf24_29 => intro W hSW; go_simp; try rfl
              try simp only [Act.put, List.setIfInBounds_toArray, List.set_cons_zero, List.set_cons_succ]
              refine wpAnyH_done (by kernel_rfl) ?_ _
              go_wp2_with fail
              go_ret
              refine ⟨v8, rfl, ?_, bel_after B1.out (Nat.le_refl _) (hHeld)⟩
              rw [bv_append]
              exact own_base ho8 B1.out.size
      · refine step_conv_str _ rfl (.tmp 37) rfl na rfl ?_
        intro cs x30 hb NW
        obtain ⟨gs_30, hgs_30⟩ : ∃ g, wd.heap.size = g := ⟨_, rfl⟩
        rw [hgs_30] at NW ⊢
        have Q_30 := Lib.hid NW
        refine hK.out _ _ ?_ (fun hHeld2 => ?_)
        · exact bel_after hHeld (Nat.le_refl _) hb
        clear hK K hHeld
        have hHeld := hHeld2; clear hHeld2
        try simp only [Act.put, List.setIfInBounds_toArray, List.set_cons_zero, List.set_cons_succ]
        clear hb
        clear NW
        refine wpAnyH_ready (rs := [18]) (by kernel_rfl) (by simp) ?_
        refine (AllReadyH.cons (o := ⟨some 34, _, _, _, _, _⟩) rfl (fun K hK => ?_) AllReadyH.nil)
        · go_simp
          have NW : Whole (x30.alloc (.cells (List.toArray (Value.int IntKind.i64 4 :: Value.int IntKind.i64 67324752 :: Value.int IntKind.i64 2 :: Value.int IntKind.i64 20 :: Value.int IntKind.i64 2 :: Value.int IntKind.i64 0 :: Value.int IntKind.i64 2 :: Value.int IntKind.i64 me :: Value.int IntKind.i64 2 :: Value.int IntKind.i64 (cl : Int) :: Value.int IntKind.i64 2 :: Value.int IntKind.i64 (da : Int) :: Value.int IntKind.i64 4 :: Value.int IntKind.i64 (su : Int) :: Value.int IntKind.i64 4 :: Value.int IntKind.i64 pa :: Value.int IntKind.i64 4 :: Value.int IntKind.i64 si :: Value.int IntKind.i64 2 :: Value.int IntKind.i64 (na.size : Int) :: Value.int IntKind.i64 2 :: Value.int IntKind.i64 0 :: [])) 3)) x30.heap.size 3 (iv (fl [(4, 67324752), (2, 20), (2, 0), (2, me), (2, (cl : Int)), (2, (da : Int)), (4, (su : Int)), (4, pa), (4, si), (2, (na.size : Int)), (2, 0)])).toArray := Whole.new x30 3 (iv (fl [(4, 67324752), (2, 20), (2, 0), (2, me), (2, (cl : Int)), (2, (da : Int)), (4, (su : Int)), (4, pa), (4, si), (2, (na.size : Int)), (2, 0)])).toArray
          have hb : Below x30.heap.size x30 (x30.alloc (.cells (List.toArray (Value.int IntKind.i64 4 :: Value.int IntKind.i64 67324752 :: Value.int IntKind.i64 2 :: Value.int IntKind.i64 20 :: Value.int IntKind.i64 2 :: Value.int IntKind.i64 0 :: Value.int IntKind.i64 2 :: Value.int IntKind.i64 me :: Value.int IntKind.i64 2 :: Value.int IntKind.i64 (cl : Int) :: Value.int IntKind.i64 2 :: Value.int IntKind.i64 (da : Int) :: Value.int IntKind.i64 4 :: Value.int IntKind.i64 (su : Int) :: Value.int IntKind.i64 4 :: Value.int IntKind.i64 pa :: Value.int IntKind.i64 4 :: Value.int IntKind.i64 si :: Value.int IntKind.i64 2 :: Value.int IntKind.i64 (na.size : Int) :: Value.int IntKind.i64 2 :: Value.int IntKind.i64 0 :: [])) 3)) := (Below.refl x30.heap.size x30).alloc (Nat.le_refl _) _
          generalize x30.alloc _ = x31 at *
          obtain ⟨gN_31, hgN_31⟩ : ∃ g, x30.heap.size = g := ⟨_, rfl⟩
          rw [hgN_31] at NW hb ⊢
          rw [← hgN_31] at hb
          have Q_31 := Lib.hid (Seen.bel Q_30.out hb)
          have N_31 := Lib.hid NW
          refine hK.out _ _ ?_ (fun hHeld2 => ?_)
          · exact bel_after hHeld (Nat.le_refl _) hb
          clear hK K hHeld
          have hHeld := hHeld2; clear hHeld2
          try simp only [Act.put, List.setIfInBounds_toArray, List.set_cons_zero, List.set_cons_succ]
          clear hb
          clear NW
          try clear Q_30
          refine wpAnyH_ready (rs := [19]) (by kernel_rfl) (by simp) ?_
          refine (AllReadyH.cons (o := ⟨some 35, _, _, _, _, _⟩) rfl (fun K hK => ?_) AllReadyH.nil)
          · go_simp
            refine (P.out x31 _ (seen_ints N_31.out rfl)).mono ?_
            rintro e x32 ⟨v1, rfl, NW, hb⟩
            have NW : OwnB x32 w1.heap.size 30 v1 L := own_base NW hHeld.size
            have Q_32 := Lib.hid (Seen.bel Q_31.out hb)
            have N_32 := Lib.hid (Whole.bel N_31.out hb)
            have O_32 := Lib.hid NW
            refine hK.out _ _ ?_ (fun hHeld2 => ?_)
            · exact bel_after hHeld (Nat.le_refl _) hb
            clear hK K hHeld
            have hHeld := hHeld2; clear hHeld2
            try simp only [Act.put, List.setIfInBounds_toArray, List.set_cons_zero, List.set_cons_succ]
            clear hb
            clear NW
            try clear Q_31
            try clear N_31
            refine wpAnyH_ready (rs := [23]) (by kernel_rfl) (by simp) ?_
            refine (AllReadyH.cons (o := ⟨some 39, _, _, _, _, _⟩) rfl (fun K hK => ?_) AllReadyH.nil)
            · refine step_append_seen _ rfl (.tmp 35) (.tmp 38) 29 rfl w1.heap.size 5 i0 _ 1 1 Try.underlying29 hi0 hz0 hz1 hz2 rfl (by omega) v1 30 (bv L) rfl O_32.out _ _ na.size cs (bv (strL na)) rfl Q_32.out (bv_oneCell _) (by simp only [maxLen]; omega) (by omega) hHeld.size ?_
              intro v8 x33 ho8 hg8 _
              have hb8 := hHeld.grown hg8 hHeld.size (fun k hk => (own_whole O_32.out hk).1)
              refine hK.out _ _ ?_ (fun hHeld2 => ?_)
              · exact hb8
              clear hK K hHeld
              have hHeld := hHeld2; clear hHeld2
              try simp only [Act.put, List.setIfInBounds_toArray, List.set_cons_zero, List.set_cons_succ]
              try clear Q_32
              try clear N_32
              try clear O_32
              refine wpAnyH_take (i := 24) (oi := ⟨some 4, _, _, _, _, _⟩) (v := ?vf24_34) rfl (by kernel_rfl) (by kernel_rfl) (by kernel_rfl) (fun _ _ _ h => h) (Or.inl ⟨by rfl, ?hyf24_34⟩) (by assumption) ?restf24_34
              case hyf24_34 => intro W hSW; go_simp; try rfl
              try simp only [Act.put, List.setIfInBounds_toArray, List.set_cons_zero, List.set_cons_succ]
              refine wpAnyH_done (by kernel_rfl) ?_ _
              go_wp2_with fail
              go_ret
              refine ⟨v8, rfl, ?_, bel_after B1.out (Nat.le_refl _) (hHeld)⟩
              rw [bv_append]
              exact own_base ho8 B1.out.size
    · refine step_conv_str _ rfl (.tmp 37) rfl na rfl ?_
      intro cs x35 hb NW
      obtain ⟨gs_35, hgs_35⟩ : ∃ g, wd.heap.size = g := ⟨_, rfl⟩
      rw [hgs_35] at NW ⊢
      have Q_35 := Lib.hid NW
      refine hK.out _ _ ?_ (fun hHeld2 => ?_)
      · exact bel_after hHeld (Nat.le_refl _) hb
      clear hK K hHeld
      have hHeld := hHeld2; clear hHeld2
      try simp only [Act.put, List.setIfInBounds_toArray, List.set_cons_zero, List.set_cons_succ]
      clear hb
      clear NW
      refine wpAnyH_ready (rs := [1]) (by kernel_rfl) (by simp) ?_
      refine (AllReadyH.cons (o := ⟨some 17, _, _, _, _, _⟩) rfl (fun K hK => ?_) AllReadyH.nil)
      · go_simp
        refine (HF.out _).mono ?_
        rintro e _ ⟨rfl, rfl⟩
        have hb := Below.refl x35.heap.size x35
        have Q_36 := Lib.hid (Seen.bel Q_35.out hb)
        refine hK.out _ _ ?_ (fun hHeld2 => ?_)
        · exact bel_after hHeld (Nat.le_refl _) hb
        clear hK K hHeld
        have hHeld := hHeld2; clear hHeld2
        try simp only [Act.put, List.setIfInBounds_toArray, List.set_cons_zero, List.set_cons_succ]
        clear hb
        try clear Q_35
        refine wpAnyH_ready (rs := [18]) (by kernel_rfl) (by simp) ?_
        refine (AllReadyH.cons (o := ⟨some 34, _, _, _, _, _⟩) rfl (fun K hK => ?_) AllReadyH.nil)
        · go_simp
          have NW : Whole (x35.alloc (.cells (List.toArray (Value.int IntKind.i64 4 :: Value.int IntKind.i64 67324752 :: Value.int IntKind.i64 2 :: Value.int IntKind.i64 20 :: Value.int IntKind.i64 2 :: Value.int IntKind.i64 0 :: Value.int IntKind.i64 2 :: Value.int IntKind.i64 me :: Value.int IntKind.i64 2 :: Value.int IntKind.i64 (cl : Int) :: Value.int IntKind.i64 2 :: Value.int IntKind.i64 (da : Int) :: Value.int IntKind.i64 4 :: Value.int IntKind.i64 (su : Int) :: Value.int IntKind.i64 4 :: Value.int IntKind.i64 pa :: Value.int IntKind.i64 4 :: Value.int IntKind.i64 si :: Value.int IntKind.i64 2 :: Value.int IntKind.i64 (na.size : Int) :: Value.int IntKind.i64 2 :: Value.int IntKind.i64 0 :: [])) 3)) x35.heap.size 3 (iv (fl [(4, 67324752), (2, 20), (2, 0), (2, me), (2, (cl : Int)), (2, (da : Int)), (4, (su : Int)), (4, pa), (4, si), (2, (na.size : Int)), (2, 0)])).toArray := Whole.new x35 3 (iv (fl [(4, 67324752), (2, 20), (2, 0), (2, me), (2, (cl : Int)), (2, (da : Int)), (4, (su : Int)), (4, pa), (4, si), (2, (na.size : Int)), (2, 0)])).toArray
          have hb : Below x35.heap.size x35 (x35.alloc (.cells (List.toArray (Value.int IntKind.i64 4 :: Value.int IntKind.i64 67324752 :: Value.int IntKind.i64 2 :: Value.int IntKind.i64 20 :: Value.int IntKind.i64 2 :: Value.int IntKind.i64 0 :: Value.int IntKind.i64 2 :: Value.int IntKind.i64 me :: Value.int IntKind.i64 2 :: Value.int IntKind.i64 (cl : Int) :: Value.int IntKind.i64 2 :: Value.int IntKind.i64 (da : Int) :: Value.int IntKind.i64 4 :: Value.int IntKind.i64 (su : Int) :: Value.int IntKind.i64 4 :: Value.int IntKind.i64 pa :: Value.int IntKind.i64 4 :: Value.int IntKind.i64 si :: Value.int IntKind.i64 2 :: Value.int IntKind.i64 (na.size : Int) :: Value.int IntKind.i64 2 :: Value.int IntKind.i64 0 :: [])) 3)) := (Below.refl x35.heap.size x35).alloc (Nat.le_refl _) _
          generalize x35.alloc _ = x37 at *
          obtain ⟨gN_37, hgN_37⟩ : ∃ g, x35.heap.size = g := ⟨_, rfl⟩
          rw [hgN_37] at NW hb ⊢
          rw [← hgN_37] at hb
          have Q_37 := Lib.hid (Seen.bel Q_36.out hb)
          have N_37 := Lib.hid NW
          refine hK.out _ _ ?_ (fun hHeld2 => ?_)
          · exact bel_after hHeld (Nat.le_refl _) hb
          clear hK K hHeld
          have hHeld := hHeld2; clear hHeld2
          try simp only [Act.put, List.setIfInBounds_toArray, List.set_cons_zero, List.set_cons_succ]
          clear hb
          clear NW
          try clear Q_36
          refine wpAnyH_ready (rs := [19]) (by kernel_rfl) (by simp) ?_
          refine (AllReadyH.cons (o := ⟨some 35, _, _, _, _, _⟩) rfl (fun K hK => ?_) AllReadyH.nil)
          · go_simp
            refine (P.out x37 _ (seen_ints N_37.out rfl)).mono ?_
            rintro e x38 ⟨v1, rfl, NW, hb⟩
            have NW : OwnB x38 w1.heap.size 30 v1 L := own_base NW hHeld.size
            have Q_38 := Lib.hid (Seen.bel Q_37.out hb)
            have N_38 := Lib.hid (Whole.bel N_37.out hb)
            have O_38 := Lib.hid NW
            refine hK.out _ _ ?_ (fun hHeld2 => ?_)
            · exact bel_after hHeld (Nat.le_refl _) hb
            clear hK K hHeld
            have hHeld := hHeld2; clear hHeld2
            try simp only [Act.put, List.setIfInBounds_toArray, List.set_cons_zero, List.set_cons_succ]
            clear hb
            clear NW
            try clear Q_37
            try clear N_37
            refine wpAnyH_ready (rs := [23]) (by kernel_rfl) (by simp) ?_
            refine (AllReadyH.cons (o := ⟨some 39, _, _, _, _, _⟩) rfl (fun K hK => ?_) AllReadyH.nil)
            · refine step_append_seen _ rfl (.tmp 35) (.tmp 38) 29 rfl w1.heap.size 5 i0 _ 1 1 Try.underlying29 hi0 hz0 hz1 hz2 rfl (by omega) v1 30 (bv L) rfl O_38.out _ _ na.size cs (bv (strL na)) rfl Q_38.out (bv_oneCell _) (by simp only [maxLen]; omega) (by omega) hHeld.size ?_
              intro v8 x39 ho8 hg8 _
              have hb8 := hHeld.grown hg8 hHeld.size (fun k hk => (own_whole O_38.out hk).1)
              refine hK.out _ _ ?_ (fun hHeld2 => ?_)
              · exact hb8
              clear hK K hHeld
              have hHeld := hHeld2; clear hHeld2
              try simp only [Act.put, List.setIfInBounds_toArray, List.set_cons_zero, List.set_cons_succ]
              try clear Q_38
              try clear N_38
              try clear O_38
              refine wpAnyH_take (i := 24) (oi := ⟨some 4, _, _, _, _, _⟩) (v := ?vf24_40) rfl (by kernel_rfl) (by kernel_rfl) (by kernel_rfl) (fun _ _ _ h => h) (Or.inl ⟨by rfl, ?hyf24_40⟩) (by assumption) ?restf24_40
              case hyf24_40 => intro W hSW; go_simp; try rfl
              try simp only [Act.put, List.setIfInBounds_toArray, List.set_cons_zero, List.set_cons_succ]
              refine wpAnyH_done (by kernel_rfl) ?_ _
              go_wp2_with fail
              go_ret
              refine ⟨v8, rfl, ?_, bel_after B1.out (Nat.le_refl _) (hHeld)⟩
              rw [bv_append]
              exact own_base ho8 B1.out.size
  · obtain ⟨L, hL⟩ : ∃ l, putL [67324752] 4 ++ putL [20] 2 ++ sharedL (told ⟨me, da, cl, su, pa, si, na, of⟩ true) true = l := ⟨_, rfl⟩
    have hn : L.length = 30 := by rw [← hL]; simp [putL_length, sharedL_length]
    have hX := shared_pairs me da cl 0 0 0 na of true
    rw [show (⟨me, da, cl, 0, 0, 0, na, of⟩ : Rec) = told ⟨me, da, cl, su, pa, si, na, of⟩ true from rfl, hL] at hX
    have HF : Hid (∀ W, Calls Try.prog 30 #[.bool true] W fun e w' => e = .returned (.int .i64 8) ∧ W = w') := Lib.hid (fun W => refFlags_any true W)
    have P := Lib.hid (fun W An hN => refPut_any An 22 W.heap.size 22 [(4, 67324752), (2, 20), (2, 8), (2, me), (2, (cl : Int)), (2, (da : Int)), (4, 0), (4, 0), (4, 0), (2, (na.size : Int)), (2, 0)] (by simp) rfl (by omega) W hN (Nat.le_refl _) _ hX 30 hn)
    have hC : localL ⟨me, da, cl, su, pa, si, na, of⟩ true = L ++ strL na := by rw [← hL]; rfl
    rw [hC]
    have w3 := nat_wrap64 (n := su) (by have := hr.su; simp only at this; omega)
    have w2 := nat_wrap64 (n := cl) (by have := hr.cl; simp only at this; omega)
    have w1' := nat_wrap64 (n := da) (by have := hr.da; simp only at this; omega)
    clear hL hX hn hC hr
    go_enter Try.func8, Try.ntmps8
    go_upto_region 1 with fail
    have HR := Lib.hid (RecAt.new w ⟨me, da, cl, su, pa, si, na, of⟩)
    have B0 := Lib.hid ((Below.refl w.heap.size w).alloc (Nat.le_refl _) (.cells (recC ⟨me, da, cl, su, pa, si, na, of⟩) 27))
    simp only [recC] at HR B0
    generalize w.alloc _ = w0 at HR B0 ⊢
    obtain ⟨gb, hgb⟩ : ∃ gb, w.heap.size = gb := ⟨_, rfl⟩
    rw [hgb] at HR ⊢
    rw [← hgb]
    refine wp_region_held_drew (S := (fun W => Below w0.heap.size w0 W)) (by kernel_rfl) (Below.refl _ _).drew (fun hHeld => ?_)
    have hHeld0 := hHeld
    generalize hwd : w0.drew = wd at *
    clear hwd hHeld0
    refine wpAnyH_take (i := 0) (oi := ⟨some 8, _, _, _, _, _⟩) (v := ?vut0_1) rfl (by kernel_rfl) (by kernel_rfl) (by kernel_rfl) (fun _ _ _ h => h) (Or.inl ⟨by rfl, ?hyut0_1⟩) (by assumption) ?restut0_1
    case hyut0_1 => intro W hSW; go_simp; try rfl
    try simp only [Act.put, List.setIfInBounds_toArray, List.set_cons_zero, List.set_cons_succ]
    refine wpAnyH_take (i := 1) (oi := ⟨some 9, _, _, _, _, _⟩) (v := ?vut1_2) rfl (by kernel_rfl) (by kernel_rfl) (by kernel_rfl) (fun _ _ _ h => h) (Or.inl ⟨by rfl, ?hyut1_2⟩) (by assumption) ?restut1_2
    case hyut1_2 => intro W hSW; obtain ⟨c0, cd, ck, c3, c4, c5, c6, c7⟩ := RecAt.cells (HR.out.bel hSW); go_simp; try rfl
    try simp only [Act.put, List.setIfInBounds_toArray, List.set_cons_zero, List.set_cons_succ]
    refine wpAnyH_take (i := 2) (oi := ⟨some 10, _, _, _, _, _⟩) (v := ?vut2_3) rfl (by kernel_rfl) (by kernel_rfl) (by kernel_rfl) (fun _ _ _ h => h) (Or.inl ⟨by rfl, ?hyut2_3⟩) (by assumption) ?restut2_3
    case hyut2_3 => intro W hSW; go_simp; try rfl
    try simp only [Act.put, List.setIfInBounds_toArray, List.set_cons_zero, List.set_cons_succ]
    refine wpAnyH_take (i := 3) (oi := ⟨some 11, _, _, _, _, _⟩) (v := ?vut3_4) rfl (by kernel_rfl) (by kernel_rfl) (by kernel_rfl) (fun _ _ _ h => h) (Or.inl ⟨by rfl, ?hyut3_4⟩) (by assumption) ?restut3_4
    case hyut3_4 => intro W hSW; go_simp; try rfl
    try simp only [Act.put, List.setIfInBounds_toArray, List.set_cons_zero, List.set_cons_succ]
    refine wpAnyH_take (i := 4) (oi := ⟨some 12, _, _, _, _, _⟩) (v := ?vut4_5) rfl (by kernel_rfl) (by kernel_rfl) (by kernel_rfl) (fun _ _ _ h => h) (Or.inl ⟨by rfl, ?hyut4_5⟩) (by assumption) ?restut4_5
    case hyut4_5 => intro W hSW; obtain ⟨c0, cd, ck, c3, c4, c5, c6, c7⟩ := RecAt.cells (HR.out.bel hSW); go_simp; try rfl
    try simp only [Act.put, List.setIfInBounds_toArray, List.set_cons_zero, List.set_cons_succ]
    refine wpAnyH_take (i := 5) (oi := ⟨some 13, _, _, _, _, _⟩) (v := ?vut5_6) rfl (by kernel_rfl) (by kernel_rfl) (by kernel_rfl) (fun _ _ _ h => h) (Or.inl ⟨by rfl, ?hyut5_6⟩) (by assumption) ?restut5_6
    case hyut5_6 => intro W hSW; go_simp; try rfl
    try simp only [Act.put, List.setIfInBounds_toArray, List.set_cons_zero, List.set_cons_succ]
    refine wpAnyH_take (i := 6) (oi := ⟨some 14, _, _, _, _, _⟩) (v := ?vut6_7) rfl (by kernel_rfl) (by kernel_rfl) (by kernel_rfl) (fun _ _ _ h => h) (Or.inl ⟨by rfl, ?hyut6_7⟩) (by assumption) ?restut6_7
    case hyut6_7 => intro W hSW; obtain ⟨c0, cd, ck, c3, c4, c5, c6, c7⟩ := RecAt.cells (HR.out.bel hSW); go_simp; try rfl
    try simp only [Act.put, List.setIfInBounds_toArray, List.set_cons_zero, List.set_cons_succ]
    refine wpAnyH_take (i := 7) (oi := ⟨some 5, _, _, _, _, _⟩) (v := ?vut7_8) rfl (by kernel_rfl) (by kernel_rfl) (by kernel_rfl) (fun _ _ _ h => h) (Or.inl ⟨by rfl, ?hyut7_8⟩) (by assumption) ?restut7_8
    case hyut7_8 => intro W hSW; go_simp; try rfl
    try simp only [Act.put, List.setIfInBounds_toArray, List.set_cons_zero, List.set_cons_succ]
    refine wpAnyH_take (i := 8) (oi := ⟨some 6, _, _, _, _, _⟩) (v := ?vut8_9) rfl (by kernel_rfl) (by kernel_rfl) (by kernel_rfl) (fun _ _ _ h => h) (Or.inl ⟨by rfl, ?hyut8_9⟩) (by assumption) ?restut8_9
    case hyut8_9 => intro W hSW; go_simp; try rfl
    try simp only [Act.put, List.setIfInBounds_toArray, List.set_cons_zero, List.set_cons_succ]
    refine wpAnyH_take (i := 9) (oi := ⟨some 7, _, _, _, _, _⟩) (v := ?vut9_10) rfl (by kernel_rfl) (by kernel_rfl) (by kernel_rfl) (fun _ _ _ h => h) (Or.inl ⟨by rfl, ?hyut9_10⟩) (by assumption) ?restut9_10
    case hyut9_10 => intro W hSW; go_simp; try rfl
    try simp only [Act.put, List.setIfInBounds_toArray, List.set_cons_zero, List.set_cons_succ]
    refine wpAnyH_done (by kernel_rfl) ?_ _
    have R1 := Lib.hid (HR.out.bel hHeld); have B1 := Lib.hid (bel_after B0.out (Nat.le_refl _) hHeld)
    clear HR B0
    go_upto_region 4 with fail
    generalize wd = w1 at *
    clear hHeld
    refine wp_region_held_drew (S := (fun W => Below w1.heap.size w1 W)) (by kernel_rfl) (Below.refl _ _).drew (fun hHeld => ?_)
    have hHeld0 := hHeld
    generalize hwd : w1.drew = wd at *
    clear hwd hHeld0
    refine wpAnyH_take (i := 0) (oi := ⟨some 16, _, _, _, _, _⟩) (v := ?vt0_1) rfl (by kernel_rfl) (by kernel_rfl) (by kernel_rfl) (fun _ _ _ h => h) (Or.inl ⟨by rfl, ?hyt0_1⟩) (by assumption) ?restt0_1
    case hyt0_1 => intro W hSW; go_simp; try rfl
    try simp only [Act.put, List.setIfInBounds_toArray, List.set_cons_zero, List.set_cons_succ]
    refine wpAnyH_take (i := 2) (oi := ⟨some 18, _, _, _, _, _⟩) (v := ?vt2_2) rfl (by kernel_rfl) (by kernel_rfl) (by kernel_rfl) (fun _ _ _ h => h) (Or.inl ⟨by rfl, ?hyt2_2⟩) (by assumption) ?restt2_2
    case hyt2_2 => intro W hSW; go_simp; try rfl
    try simp only [Act.put, List.setIfInBounds_toArray, List.set_cons_zero, List.set_cons_succ]
    refine wpAnyH_take (i := 3) (oi := ⟨some 19, _, _, _, _, _⟩) (v := ?vt3_3) rfl (by kernel_rfl) (by kernel_rfl) (by kernel_rfl) (fun _ _ _ h => h) (Or.inl ⟨by rfl, ?hyt3_3⟩) (by assumption) ?restt3_3
    case hyt3_3 => intro W hSW; obtain ⟨c0, cd, ck, c3, c4, c5, c6, c7⟩ := RecAt.cells (R1.out.bel hSW); go_simp; try rfl
    try simp only [Act.put, List.setIfInBounds_toArray, List.set_cons_zero, List.set_cons_succ]
    refine wpAnyH_take (i := 4) (oi := ⟨some 20, _, _, _, _, _⟩) (v := ?vt4_4) rfl (by kernel_rfl) (by kernel_rfl) (by kernel_rfl) (fun _ _ _ h => h) (Or.inl ⟨by rfl, ?hyt4_4⟩) (by assumption) ?restt4_4
    case hyt4_4 => intro W hSW; go_simp; try rfl
    try simp only [Act.put, List.setIfInBounds_toArray, List.set_cons_zero, List.set_cons_succ]
    refine wpAnyH_take (i := 5) (oi := ⟨some 21, _, _, _, _, _⟩) (v := ?vt5_5) rfl (by kernel_rfl) (by kernel_rfl) (by kernel_rfl) (fun _ _ _ h => h) (Or.inl ⟨by rfl, ?hyt5_5⟩) (by assumption) ?restt5_5
    case hyt5_5 => intro W hSW; go_simp; try rfl
    try simp only [Act.put, List.setIfInBounds_toArray, List.set_cons_zero, List.set_cons_succ]
    refine wpAnyH_take (i := 6) (oi := ⟨some 22, _, _, _, _, _⟩) (v := ?vt6_6) rfl (by kernel_rfl) (by kernel_rfl) (by kernel_rfl) (fun _ _ _ h => h) (Or.inl ⟨by rfl, ?hyt6_6⟩) (by assumption) ?restt6_6
    case hyt6_6 => intro W hSW; obtain ⟨c0, cd, ck, c3, c4, c5, c6, c7⟩ := RecAt.cells (R1.out.bel hSW); go_simp; try rfl
    try simp only [Act.put, List.setIfInBounds_toArray, List.set_cons_zero, List.set_cons_succ]
    refine wpAnyH_take (i := 7) (oi := ⟨some 23, _, _, _, _, _⟩) (v := ?vt7_7) rfl (by kernel_rfl) (by kernel_rfl) (by kernel_rfl) (fun _ _ _ h => h) (Or.inl ⟨by rfl, ?hyt7_7⟩) (by assumption) ?restt7_7
    case hyt7_7 => intro W hSW; go_simp; try rfl
    try simp only [Act.put, List.setIfInBounds_toArray, List.set_cons_zero, List.set_cons_succ]
    refine wpAnyH_take (i := 8) (oi := ⟨some 24, _, _, _, _, _⟩) (v := ?vt8_8) rfl (by kernel_rfl) (by kernel_rfl) (by kernel_rfl) (fun _ _ _ h => h) (Or.inl ⟨by rfl, ?hyt8_8⟩) (by assumption) ?restt8_8
    case hyt8_8 => intro W hSW; go_simp; try rfl
    try simp only [Act.put, List.setIfInBounds_toArray, List.set_cons_zero, List.set_cons_succ]
    refine wpAnyH_take (i := 9) (oi := ⟨some 25, _, _, _, _, _⟩) (v := ?vt9_9) rfl (by kernel_rfl) (by kernel_rfl) (by kernel_rfl) (fun _ _ _ h => h) (Or.inl ⟨by rfl, ?hyt9_9⟩) (by assumption) ?restt9_9
    case hyt9_9 => intro W hSW; go_simp; try rfl
    try simp only [Act.put, List.setIfInBounds_toArray, List.set_cons_zero, List.set_cons_succ]
    refine wpAnyH_take (i := 10) (oi := ⟨some 26, _, _, _, _, _⟩) (v := ?vt10_10) rfl (by kernel_rfl) (by kernel_rfl) (by kernel_rfl) (fun _ _ _ h => h) (Or.inl ⟨by rfl, ?hyt10_10⟩) (by assumption) ?restt10_10
    case hyt10_10 => intro W hSW; obtain ⟨c0, cd, ck, c3, c4, c5, c6, c7⟩ := RecAt.cells (R1.out.bel hSW); go_simp; try rfl
    try simp only [Act.put, List.setIfInBounds_toArray, List.set_cons_zero, List.set_cons_succ]
    refine wpAnyH_take (i := 11) (oi := ⟨some 27, _, _, _, _, _⟩) (v := ?vt11_11) rfl (by kernel_rfl) (by kernel_rfl) (by kernel_rfl) (fun _ _ _ h => h) (Or.inl ⟨by rfl, ?hyt11_11⟩) (by assumption) ?restt11_11
    case hyt11_11 => intro W hSW; go_simp; try rfl
    try simp only [Act.put, List.setIfInBounds_toArray, List.set_cons_zero, List.set_cons_succ]
    refine wpAnyH_take (i := 12) (oi := ⟨some 28, _, _, _, _, _⟩) (v := ?vt12_12) rfl (by kernel_rfl) (by kernel_rfl) (by kernel_rfl) (fun _ _ _ h => h) (Or.inl ⟨by rfl, ?hyt12_12⟩) (by assumption) ?restt12_12
    case hyt12_12 => intro W hSW; go_simp; try rfl
    try simp only [Act.put, List.setIfInBounds_toArray, List.set_cons_zero, List.set_cons_succ]
    refine wpAnyH_take (i := 13) (oi := ⟨some 29, _, _, _, _, _⟩) (v := ?vt13_13) rfl (by kernel_rfl) (by kernel_rfl) (by kernel_rfl) (fun _ _ _ h => h) (Or.inl ⟨by rfl, ?hyt13_13⟩) (by assumption) ?restt13_13
    case hyt13_13 => intro W hSW; go_simp; try rfl
    try simp only [Act.put, List.setIfInBounds_toArray, List.set_cons_zero, List.set_cons_succ]
    refine wpAnyH_take (i := 14) (oi := ⟨some 30, _, _, _, _, _⟩) (v := ?vt14_14) rfl (by kernel_rfl) (by kernel_rfl) (by kernel_rfl) (fun _ _ _ h => h) (Or.inl ⟨by rfl, ?hyt14_14⟩) (by assumption) ?restt14_14
    case hyt14_14 => intro W hSW; go_simp; try rfl
    try simp only [Act.put, List.setIfInBounds_toArray, List.set_cons_zero, List.set_cons_succ]
    refine wpAnyH_take (i := 15) (oi := ⟨some 31, _, _, _, _, _⟩) (v := ?vt15_15) rfl (by kernel_rfl) (by kernel_rfl) (by kernel_rfl) (fun _ _ _ h => h) (Or.inl ⟨by rfl, ?hyt15_15⟩) (by assumption) ?restt15_15
    case hyt15_15 => intro W hSW; go_simp; try rfl
    try simp only [Act.put, List.setIfInBounds_toArray, List.set_cons_zero, List.set_cons_succ]
    refine wpAnyH_take (i := 16) (oi := ⟨some 32, _, _, _, _, _⟩) (v := ?vt16_16) rfl (by kernel_rfl) (by kernel_rfl) (by kernel_rfl) (fun _ _ _ h => h) (Or.inl ⟨by rfl, ?hyt16_16⟩) (by assumption) ?restt16_16
    case hyt16_16 => intro W hSW; obtain ⟨c0, cd, ck, c3, c4, c5, c6, c7⟩ := RecAt.cells (R1.out.bel hSW); go_simp; try rfl
    try simp only [Act.put, List.setIfInBounds_toArray, List.set_cons_zero, List.set_cons_succ]
    refine wpAnyH_take (i := 17) (oi := ⟨some 33, _, _, _, _, _⟩) (v := ?vt17_17) rfl (by kernel_rfl) (by kernel_rfl) (by kernel_rfl) (fun _ _ _ h => h) (Or.inl ⟨by rfl, ?hyt17_17⟩) (by assumption) ?restt17_17
    case hyt17_17 => intro W hSW; go_simp; try rfl
    try simp only [Act.put, List.setIfInBounds_toArray, List.set_cons_zero, List.set_cons_succ]
    refine wpAnyH_take (i := 20) (oi := ⟨some 36, _, _, _, _, _⟩) (v := ?vt20_18) rfl (by kernel_rfl) (by kernel_rfl) (by kernel_rfl) (fun _ _ _ h => h) (Or.inl ⟨by rfl, ?hyt20_18⟩) (by assumption) ?restt20_18
    case hyt20_18 => intro W hSW; go_simp; try rfl
    try simp only [Act.put, List.setIfInBounds_toArray, List.set_cons_zero, List.set_cons_succ]
    refine wpAnyH_take (i := 21) (oi := ⟨some 37, _, _, _, _, _⟩) (v := ?vt21_19) rfl (by kernel_rfl) (by kernel_rfl) (by kernel_rfl) (fun _ _ _ h => h) (Or.inl ⟨by rfl, ?hyt21_19⟩) (by assumption) ?restt21_19
    case hyt21_19 => intro W hSW; obtain ⟨c0, cd, ck, c3, c4, c5, c6, c7⟩ := RecAt.cells (R1.out.bel hSW); go_simp; try rfl
    try simp only [Act.put, List.setIfInBounds_toArray, List.set_cons_zero, List.set_cons_succ]
    refine wpAnyH_ready (rs := [1, 22]) (by kernel_rfl) (by simp) ?_
    refine (AllReadyH.cons (o := ⟨some 17, _, _, _, _, _⟩) rfl (fun K hK => ?_) (AllReadyH.cons (o := ⟨some 38, _, _, _, _, _⟩) rfl (fun K hK => ?_) AllReadyH.nil))
    · go_simp
      refine (HF.out _).mono ?_
      rintro e _ ⟨rfl, rfl⟩
      have hb := Below.refl wd.heap.size wd
      refine hK.out _ _ ?_ (fun hHeld2 => ?_)
      · exact bel_after hHeld (Nat.le_refl _) hb
      clear hK K hHeld
      have hHeld := hHeld2; clear hHeld2
      try simp only [Act.put, List.setIfInBounds_toArray, List.set_cons_zero, List.set_cons_succ]
      clear hb
      refine wpAnyH_ready (rs := [18, 22]) (by kernel_rfl) (by simp) ?_
      refine (AllReadyH.cons (o := ⟨some 34, _, _, _, _, _⟩) rfl (fun K hK => ?_) (AllReadyH.cons (o := ⟨some 38, _, _, _, _, _⟩) rfl (fun K hK => ?_) AllReadyH.nil))
      · go_simp
        have NW : Whole (wd.alloc (.cells (List.toArray (Value.int IntKind.i64 4 :: Value.int IntKind.i64 67324752 :: Value.int IntKind.i64 2 :: Value.int IntKind.i64 20 :: Value.int IntKind.i64 2 :: Value.int IntKind.i64 8 :: Value.int IntKind.i64 2 :: Value.int IntKind.i64 me :: Value.int IntKind.i64 2 :: Value.int IntKind.i64 (cl : Int) :: Value.int IntKind.i64 2 :: Value.int IntKind.i64 (da : Int) :: Value.int IntKind.i64 4 :: Value.int IntKind.i64 0 :: Value.int IntKind.i64 4 :: Value.int IntKind.i64 0 :: Value.int IntKind.i64 4 :: Value.int IntKind.i64 0 :: Value.int IntKind.i64 2 :: Value.int IntKind.i64 (na.size : Int) :: Value.int IntKind.i64 2 :: Value.int IntKind.i64 0 :: [])) 3)) wd.heap.size 3 (iv (fl [(4, 67324752), (2, 20), (2, 8), (2, me), (2, (cl : Int)), (2, (da : Int)), (4, 0), (4, 0), (4, 0), (2, (na.size : Int)), (2, 0)])).toArray := Whole.new wd 3 (iv (fl [(4, 67324752), (2, 20), (2, 8), (2, me), (2, (cl : Int)), (2, (da : Int)), (4, 0), (4, 0), (4, 0), (2, (na.size : Int)), (2, 0)])).toArray
        have hb : Below wd.heap.size wd (wd.alloc (.cells (List.toArray (Value.int IntKind.i64 4 :: Value.int IntKind.i64 67324752 :: Value.int IntKind.i64 2 :: Value.int IntKind.i64 20 :: Value.int IntKind.i64 2 :: Value.int IntKind.i64 8 :: Value.int IntKind.i64 2 :: Value.int IntKind.i64 me :: Value.int IntKind.i64 2 :: Value.int IntKind.i64 (cl : Int) :: Value.int IntKind.i64 2 :: Value.int IntKind.i64 (da : Int) :: Value.int IntKind.i64 4 :: Value.int IntKind.i64 0 :: Value.int IntKind.i64 4 :: Value.int IntKind.i64 0 :: Value.int IntKind.i64 4 :: Value.int IntKind.i64 0 :: Value.int IntKind.i64 2 :: Value.int IntKind.i64 (na.size : Int) :: Value.int IntKind.i64 2 :: Value.int IntKind.i64 0 :: [])) 3)) := (Below.refl wd.heap.size wd).alloc (Nat.le_refl _) _
        generalize wd.alloc _ = x21 at *
        obtain ⟨gN_21, hgN_21⟩ : ∃ g, wd.heap.size = g := ⟨_, rfl⟩
        rw [hgN_21] at NW hb ⊢
        rw [← hgN_21] at hb
        have N_21 := Lib.hid NW
        refine hK.out _ _ ?_ (fun hHeld2 => ?_)
        · exact bel_after hHeld (Nat.le_refl _) hb
        clear hK K hHeld
        have hHeld := hHeld2; clear hHeld2
        try simp only [Act.put, List.setIfInBounds_toArray, List.set_cons_zero, List.set_cons_succ]
        clear hb
        clear NW
        refine wpAnyH_ready (rs := [19, 22]) (by kernel_rfl) (by simp) ?_
        refine (AllReadyH.cons (o := ⟨some 35, _, _, _, _, _⟩) rfl (fun K hK => ?_) (AllReadyH.cons (o := ⟨some 38, _, _, _, _, _⟩) rfl (fun K hK => ?_) AllReadyH.nil))
        · go_simp
          refine (P.out x21 _ (seen_ints N_21.out rfl)).mono ?_
          rintro e x22 ⟨v1, rfl, NW, hb⟩
          have NW : OwnB x22 w1.heap.size 30 v1 L := own_base NW hHeld.size
          have N_22 := Lib.hid (Whole.bel N_21.out hb)
          have O_22 := Lib.hid NW
          refine hK.out _ _ ?_ (fun hHeld2 => ?_)
          · exact bel_after hHeld (Nat.le_refl _) hb
          clear hK K hHeld
          have hHeld := hHeld2; clear hHeld2
          try simp only [Act.put, List.setIfInBounds_toArray, List.set_cons_zero, List.set_cons_succ]
          clear hb
          clear NW
          try clear N_21
          refine wpAnyH_ready (rs := [22]) (by kernel_rfl) (by simp) ?_
          refine (AllReadyH.cons (o := ⟨some 38, _, _, _, _, _⟩) rfl (fun K hK => ?_) AllReadyH.nil)
          · refine step_conv_str _ rfl (.tmp 37) rfl na rfl ?_
            intro cs x23 hb NW
            obtain ⟨gs_23, hgs_23⟩ : ∃ g, x22.heap.size = g := ⟨_, rfl⟩
            rw [hgs_23] at NW ⊢
            have N_23 := Lib.hid (Whole.bel N_22.out hb)
            have O_23 := Lib.hid (OwnB.bel O_22.out hb)
            have Q_23 := Lib.hid NW
            refine hK.out _ _ ?_ (fun hHeld2 => ?_)
            · exact bel_after hHeld (Nat.le_refl _) hb
            clear hK K hHeld
            have hHeld := hHeld2; clear hHeld2
            try simp only [Act.put, List.setIfInBounds_toArray, List.set_cons_zero, List.set_cons_succ]
            clear hb
            clear NW
            try clear N_22
            try clear O_22
            refine wpAnyH_ready (rs := [23]) (by kernel_rfl) (by simp) ?_
            refine (AllReadyH.cons (o := ⟨some 39, _, _, _, _, _⟩) rfl (fun K hK => ?_) AllReadyH.nil)
            · refine step_append_seen _ rfl (.tmp 35) (.tmp 38) 29 rfl w1.heap.size 5 i0 _ 1 1 Try.underlying29 hi0 hz0 hz1 hz2 rfl (by omega) v1 30 (bv L) rfl O_23.out _ _ na.size cs (bv (strL na)) rfl Q_23.out (bv_oneCell _) (by simp only [maxLen]; omega) (by omega) hHeld.size ?_
              intro v8 x24 ho8 hg8 _
              have hb8 := hHeld.grown hg8 hHeld.size (fun k hk => (own_whole O_23.out hk).1)
              refine hK.out _ _ ?_ (fun hHeld2 => ?_)
              · exact hb8
              clear hK K hHeld
              have hHeld := hHeld2; clear hHeld2
              try simp only [Act.put, List.setIfInBounds_toArray, List.set_cons_zero, List.set_cons_succ]
              try clear N_23
              try clear O_23
              try clear Q_23
              refine wpAnyH_take (i := 24) (oi := ⟨some 4, _, _, _, _, _⟩) (v := ?vt24_25) rfl (by kernel_rfl) (by kernel_rfl) (by kernel_rfl) (fun _ _ _ h => h) (Or.inl ⟨by rfl, ?hyt24_25⟩) (by assumption) ?restt24_25
              case hyt24_25 => intro W hSW; go_simp; try rfl
              try simp only [Act.put, List.setIfInBounds_toArray, List.set_cons_zero, List.set_cons_succ]
              refine wpAnyH_done (by kernel_rfl) ?_ _
              go_wp2_with fail
              go_ret
              refine ⟨v8, rfl, ?_, bel_after B1.out (Nat.le_refl _) (hHeld)⟩
              rw [bv_append]
              exact own_base ho8 B1.out.size
        · refine step_conv_str _ rfl (.tmp 37) rfl na rfl ?_
          intro cs x26 hb NW
          obtain ⟨gs_26, hgs_26⟩ : ∃ g, x21.heap.size = g := ⟨_, rfl⟩
          rw [hgs_26] at NW ⊢
          have N_26 := Lib.hid (Whole.bel N_21.out hb)
          have Q_26 := Lib.hid NW
          refine hK.out _ _ ?_ (fun hHeld2 => ?_)
          · exact bel_after hHeld (Nat.le_refl _) hb
          clear hK K hHeld
          have hHeld := hHeld2; clear hHeld2
          try simp only [Act.put, List.setIfInBounds_toArray, List.set_cons_zero, List.set_cons_succ]
          clear hb
          clear NW
          try clear N_21
          refine wpAnyH_ready (rs := [19]) (by kernel_rfl) (by simp) ?_
          refine (AllReadyH.cons (o := ⟨some 35, _, _, _, _, _⟩) rfl (fun K hK => ?_) AllReadyH.nil)
          · go_simp
            refine (P.out x26 _ (seen_ints N_26.out rfl)).mono ?_
            rintro e x27 ⟨v1, rfl, NW, hb⟩
            have NW : OwnB x27 w1.heap.size 30 v1 L := own_base NW hHeld.size
            have N_27 := Lib.hid (Whole.bel N_26.out hb)
            have Q_27 := Lib.hid (Seen.bel Q_26.out hb)
            have O_27 := Lib.hid NW
            refine hK.out _ _ ?_ (fun hHeld2 => ?_)
            · exact bel_after hHeld (Nat.le_refl _) hb
            clear hK K hHeld
            have hHeld := hHeld2; clear hHeld2
            try simp only [Act.put, List.setIfInBounds_toArray, List.set_cons_zero, List.set_cons_succ]
            clear hb
            clear NW
            try clear N_26
            try clear Q_26
            refine wpAnyH_ready (rs := [23]) (by kernel_rfl) (by simp) ?_
            refine (AllReadyH.cons (o := ⟨some 39, _, _, _, _, _⟩) rfl (fun K hK => ?_) AllReadyH.nil)
            · refine step_append_seen _ rfl (.tmp 35) (.tmp 38) 29 rfl w1.heap.size 5 i0 _ 1 1 Try.underlying29 hi0 hz0 hz1 hz2 rfl (by omega) v1 30 (bv L) rfl O_27.out _ _ na.size cs (bv (strL na)) rfl Q_27.out (bv_oneCell _) (by simp only [maxLen]; omega) (by omega) hHeld.size ?_
              intro v8 x28 ho8 hg8 _
              have hb8 := hHeld.grown hg8 hHeld.size (fun k hk => (own_whole O_27.out hk).1)
              refine hK.out _ _ ?_ (fun hHeld2 => ?_)
              · exact hb8
              clear hK K hHeld
              have hHeld := hHeld2; clear hHeld2
              try simp only [Act.put, List.setIfInBounds_toArray, List.set_cons_zero, List.set_cons_succ]
              try clear N_27
              try clear Q_27
              try clear O_27
              refine wpAnyH_take (i := 24) (oi := ⟨some 4, _, _, _, _, _⟩) (v := ?vt24_29) rfl (by kernel_rfl) (by kernel_rfl) (by kernel_rfl) (fun _ _ _ h => h) (Or.inl ⟨by rfl, ?hyt24_29⟩) (by assumption) ?restt24_29
              case hyt24_29 => intro W hSW; go_simp; try rfl
              try simp only [Act.put, List.setIfInBounds_toArray, List.set_cons_zero, List.set_cons_succ]
              refine wpAnyH_done (by kernel_rfl) ?_ _
              go_wp2_with fail
              go_ret
              refine ⟨v8, rfl, ?_, bel_after B1.out (Nat.le_refl _) (hHeld)⟩
              rw [bv_append]
              exact own_base ho8 B1.out.size
      · refine step_conv_str _ rfl (.tmp 37) rfl na rfl ?_
        intro cs x30 hb NW
        obtain ⟨gs_30, hgs_30⟩ : ∃ g, wd.heap.size = g := ⟨_, rfl⟩
        rw [hgs_30] at NW ⊢
        have Q_30 := Lib.hid NW
        refine hK.out _ _ ?_ (fun hHeld2 => ?_)
        · exact bel_after hHeld (Nat.le_refl _) hb
        clear hK K hHeld
        have hHeld := hHeld2; clear hHeld2
        try simp only [Act.put, List.setIfInBounds_toArray, List.set_cons_zero, List.set_cons_succ]
        clear hb
        clear NW
        refine wpAnyH_ready (rs := [18]) (by kernel_rfl) (by simp) ?_
        refine (AllReadyH.cons (o := ⟨some 34, _, _, _, _, _⟩) rfl (fun K hK => ?_) AllReadyH.nil)
        · go_simp
          have NW : Whole (x30.alloc (.cells (List.toArray (Value.int IntKind.i64 4 :: Value.int IntKind.i64 67324752 :: Value.int IntKind.i64 2 :: Value.int IntKind.i64 20 :: Value.int IntKind.i64 2 :: Value.int IntKind.i64 8 :: Value.int IntKind.i64 2 :: Value.int IntKind.i64 me :: Value.int IntKind.i64 2 :: Value.int IntKind.i64 (cl : Int) :: Value.int IntKind.i64 2 :: Value.int IntKind.i64 (da : Int) :: Value.int IntKind.i64 4 :: Value.int IntKind.i64 0 :: Value.int IntKind.i64 4 :: Value.int IntKind.i64 0 :: Value.int IntKind.i64 4 :: Value.int IntKind.i64 0 :: Value.int IntKind.i64 2 :: Value.int IntKind.i64 (na.size : Int) :: Value.int IntKind.i64 2 :: Value.int IntKind.i64 0 :: [])) 3)) x30.heap.size 3 (iv (fl [(4, 67324752), (2, 20), (2, 8), (2, me), (2, (cl : Int)), (2, (da : Int)), (4, 0), (4, 0), (4, 0), (2, (na.size : Int)), (2, 0)])).toArray := Whole.new x30 3 (iv (fl [(4, 67324752), (2, 20), (2, 8), (2, me), (2, (cl : Int)), (2, (da : Int)), (4, 0), (4, 0), (4, 0), (2, (na.size : Int)), (2, 0)])).toArray
          have hb : Below x30.heap.size x30 (x30.alloc (.cells (List.toArray (Value.int IntKind.i64 4 :: Value.int IntKind.i64 67324752 :: Value.int IntKind.i64 2 :: Value.int IntKind.i64 20 :: Value.int IntKind.i64 2 :: Value.int IntKind.i64 8 :: Value.int IntKind.i64 2 :: Value.int IntKind.i64 me :: Value.int IntKind.i64 2 :: Value.int IntKind.i64 (cl : Int) :: Value.int IntKind.i64 2 :: Value.int IntKind.i64 (da : Int) :: Value.int IntKind.i64 4 :: Value.int IntKind.i64 0 :: Value.int IntKind.i64 4 :: Value.int IntKind.i64 0 :: Value.int IntKind.i64 4 :: Value.int IntKind.i64 0 :: Value.int IntKind.i64 2 :: Value.int IntKind.i64 (na.size : Int) :: Value.int IntKind.i64 2 :: Value.int IntKind.i64 0 :: [])) 3)) := (Below.refl x30.heap.size x30).alloc (Nat.le_refl _) _
          generalize x30.alloc _ = x31 at *
          obtain ⟨gN_31, hgN_31⟩ : ∃ g, x30.heap.size = g := ⟨_, rfl⟩
          rw [hgN_31] at NW hb ⊢
          rw [← hgN_31] at hb
          have Q_31 := Lib.hid (Seen.bel Q_30.out hb)
          have N_31 := Lib.hid NW
          refine hK.out _ _ ?_ (fun hHeld2 => ?_)
          · exact bel_after hHeld (Nat.le_refl _) hb
          clear hK K hHeld
          have hHeld := hHeld2; clear hHeld2
          try simp only [Act.put, List.setIfInBounds_toArray, List.set_cons_zero, List.set_cons_succ]
          clear hb
          clear NW
          try clear Q_30
          refine wpAnyH_ready (rs := [19]) (by kernel_rfl) (by simp) ?_
          refine (AllReadyH.cons (o := ⟨some 35, _, _, _, _, _⟩) rfl (fun K hK => ?_) AllReadyH.nil)
          · go_simp
            refine (P.out x31 _ (seen_ints N_31.out rfl)).mono ?_
            rintro e x32 ⟨v1, rfl, NW, hb⟩
            have NW : OwnB x32 w1.heap.size 30 v1 L := own_base NW hHeld.size
            have Q_32 := Lib.hid (Seen.bel Q_31.out hb)
            have N_32 := Lib.hid (Whole.bel N_31.out hb)
            have O_32 := Lib.hid NW
            refine hK.out _ _ ?_ (fun hHeld2 => ?_)
            · exact bel_after hHeld (Nat.le_refl _) hb
            clear hK K hHeld
            have hHeld := hHeld2; clear hHeld2
            try simp only [Act.put, List.setIfInBounds_toArray, List.set_cons_zero, List.set_cons_succ]
            clear hb
            clear NW
            try clear Q_31
            try clear N_31
            refine wpAnyH_ready (rs := [23]) (by kernel_rfl) (by simp) ?_
            refine (AllReadyH.cons (o := ⟨some 39, _, _, _, _, _⟩) rfl (fun K hK => ?_) AllReadyH.nil)
            · refine step_append_seen _ rfl (.tmp 35) (.tmp 38) 29 rfl w1.heap.size 5 i0 _ 1 1 Try.underlying29 hi0 hz0 hz1 hz2 rfl (by omega) v1 30 (bv L) rfl O_32.out _ _ na.size cs (bv (strL na)) rfl Q_32.out (bv_oneCell _) (by simp only [maxLen]; omega) (by omega) hHeld.size ?_
              intro v8 x33 ho8 hg8 _
              have hb8 := hHeld.grown hg8 hHeld.size (fun k hk => (own_whole O_32.out hk).1)
              refine hK.out _ _ ?_ (fun hHeld2 => ?_)
              · exact hb8
              clear hK K hHeld
              have hHeld := hHeld2; clear hHeld2
              try simp only [Act.put, List.setIfInBounds_toArray, List.set_cons_zero, List.set_cons_succ]
              try clear Q_32
              try clear N_32
              try clear O_32
              refine wpAnyH_take (i := 24) (oi := ⟨some 4, _, _, _, _, _⟩) (v := ?vt24_34) rfl (by kernel_rfl) (by kernel_rfl) (by kernel_rfl) (fun _ _ _ h => h) (Or.inl ⟨by rfl, ?hyt24_34⟩) (by assumption) ?restt24_34
              case hyt24_34 => intro W hSW; go_simp; try rfl
              try simp only [Act.put, List.setIfInBounds_toArray, List.set_cons_zero, List.set_cons_succ]
              refine wpAnyH_done (by kernel_rfl) ?_ _
              go_wp2_with fail
              go_ret
              refine ⟨v8, rfl, ?_, bel_after B1.out (Nat.le_refl _) (hHeld)⟩
              rw [bv_append]
              exact own_base ho8 B1.out.size
    · refine step_conv_str _ rfl (.tmp 37) rfl na rfl ?_
      intro cs x35 hb NW
      obtain ⟨gs_35, hgs_35⟩ : ∃ g, wd.heap.size = g := ⟨_, rfl⟩
      rw [hgs_35] at NW ⊢
      have Q_35 := Lib.hid NW
      refine hK.out _ _ ?_ (fun hHeld2 => ?_)
      · exact bel_after hHeld (Nat.le_refl _) hb
      clear hK K hHeld
      have hHeld := hHeld2; clear hHeld2
      try simp only [Act.put, List.setIfInBounds_toArray, List.set_cons_zero, List.set_cons_succ]
      clear hb
      clear NW
      refine wpAnyH_ready (rs := [1]) (by kernel_rfl) (by simp) ?_
      refine (AllReadyH.cons (o := ⟨some 17, _, _, _, _, _⟩) rfl (fun K hK => ?_) AllReadyH.nil)
      · go_simp
        refine (HF.out _).mono ?_
        rintro e _ ⟨rfl, rfl⟩
        have hb := Below.refl x35.heap.size x35
        have Q_36 := Lib.hid (Seen.bel Q_35.out hb)
        refine hK.out _ _ ?_ (fun hHeld2 => ?_)
        · exact bel_after hHeld (Nat.le_refl _) hb
        clear hK K hHeld
        have hHeld := hHeld2; clear hHeld2
        try simp only [Act.put, List.setIfInBounds_toArray, List.set_cons_zero, List.set_cons_succ]
        clear hb
        try clear Q_35
        refine wpAnyH_ready (rs := [18]) (by kernel_rfl) (by simp) ?_
        refine (AllReadyH.cons (o := ⟨some 34, _, _, _, _, _⟩) rfl (fun K hK => ?_) AllReadyH.nil)
        · go_simp
          have NW : Whole (x35.alloc (.cells (List.toArray (Value.int IntKind.i64 4 :: Value.int IntKind.i64 67324752 :: Value.int IntKind.i64 2 :: Value.int IntKind.i64 20 :: Value.int IntKind.i64 2 :: Value.int IntKind.i64 8 :: Value.int IntKind.i64 2 :: Value.int IntKind.i64 me :: Value.int IntKind.i64 2 :: Value.int IntKind.i64 (cl : Int) :: Value.int IntKind.i64 2 :: Value.int IntKind.i64 (da : Int) :: Value.int IntKind.i64 4 :: Value.int IntKind.i64 0 :: Value.int IntKind.i64 4 :: Value.int IntKind.i64 0 :: Value.int IntKind.i64 4 :: Value.int IntKind.i64 0 :: Value.int IntKind.i64 2 :: Value.int IntKind.i64 (na.size : Int) :: Value.int IntKind.i64 2 :: Value.int IntKind.i64 0 :: [])) 3)) x35.heap.size 3 (iv (fl [(4, 67324752), (2, 20), (2, 8), (2, me), (2, (cl : Int)), (2, (da : Int)), (4, 0), (4, 0), (4, 0), (2, (na.size : Int)), (2, 0)])).toArray := Whole.new x35 3 (iv (fl [(4, 67324752), (2, 20), (2, 8), (2, me), (2, (cl : Int)), (2, (da : Int)), (4, 0), (4, 0), (4, 0), (2, (na.size : Int)), (2, 0)])).toArray
          have hb : Below x35.heap.size x35 (x35.alloc (.cells (List.toArray (Value.int IntKind.i64 4 :: Value.int IntKind.i64 67324752 :: Value.int IntKind.i64 2 :: Value.int IntKind.i64 20 :: Value.int IntKind.i64 2 :: Value.int IntKind.i64 8 :: Value.int IntKind.i64 2 :: Value.int IntKind.i64 me :: Value.int IntKind.i64 2 :: Value.int IntKind.i64 (cl : Int) :: Value.int IntKind.i64 2 :: Value.int IntKind.i64 (da : Int) :: Value.int IntKind.i64 4 :: Value.int IntKind.i64 0 :: Value.int IntKind.i64 4 :: Value.int IntKind.i64 0 :: Value.int IntKind.i64 4 :: Value.int IntKind.i64 0 :: Value.int IntKind.i64 2 :: Value.int IntKind.i64 (na.size : Int) :: Value.int IntKind.i64 2 :: Value.int IntKind.i64 0 :: [])) 3)) := (Below.refl x35.heap.size x35).alloc (Nat.le_refl _) _
          generalize x35.alloc _ = x37 at *
          obtain ⟨gN_37, hgN_37⟩ : ∃ g, x35.heap.size = g := ⟨_, rfl⟩
          rw [hgN_37] at NW hb ⊢
          rw [← hgN_37] at hb
          have Q_37 := Lib.hid (Seen.bel Q_36.out hb)
          have N_37 := Lib.hid NW
          refine hK.out _ _ ?_ (fun hHeld2 => ?_)
          · exact bel_after hHeld (Nat.le_refl _) hb
          clear hK K hHeld
          have hHeld := hHeld2; clear hHeld2
          try simp only [Act.put, List.setIfInBounds_toArray, List.set_cons_zero, List.set_cons_succ]
          clear hb
          clear NW
          try clear Q_36
          refine wpAnyH_ready (rs := [19]) (by kernel_rfl) (by simp) ?_
          refine (AllReadyH.cons (o := ⟨some 35, _, _, _, _, _⟩) rfl (fun K hK => ?_) AllReadyH.nil)
          · go_simp
            refine (P.out x37 _ (seen_ints N_37.out rfl)).mono ?_
            rintro e x38 ⟨v1, rfl, NW, hb⟩
            have NW : OwnB x38 w1.heap.size 30 v1 L := own_base NW hHeld.size
            have Q_38 := Lib.hid (Seen.bel Q_37.out hb)
            have N_38 := Lib.hid (Whole.bel N_37.out hb)
            have O_38 := Lib.hid NW
            refine hK.out _ _ ?_ (fun hHeld2 => ?_)
            · exact bel_after hHeld (Nat.le_refl _) hb
            clear hK K hHeld
            have hHeld := hHeld2; clear hHeld2
            try simp only [Act.put, List.setIfInBounds_toArray, List.set_cons_zero, List.set_cons_succ]
            clear hb
            clear NW
            try clear Q_37
            try clear N_37
            refine wpAnyH_ready (rs := [23]) (by kernel_rfl) (by simp) ?_
            refine (AllReadyH.cons (o := ⟨some 39, _, _, _, _, _⟩) rfl (fun K hK => ?_) AllReadyH.nil)
            · refine step_append_seen _ rfl (.tmp 35) (.tmp 38) 29 rfl w1.heap.size 5 i0 _ 1 1 Try.underlying29 hi0 hz0 hz1 hz2 rfl (by omega) v1 30 (bv L) rfl O_38.out _ _ na.size cs (bv (strL na)) rfl Q_38.out (bv_oneCell _) (by simp only [maxLen]; omega) (by omega) hHeld.size ?_
              intro v8 x39 ho8 hg8 _
              have hb8 := hHeld.grown hg8 hHeld.size (fun k hk => (own_whole O_38.out hk).1)
              refine hK.out _ _ ?_ (fun hHeld2 => ?_)
              · exact hb8
              clear hK K hHeld
              have hHeld := hHeld2; clear hHeld2
              try simp only [Act.put, List.setIfInBounds_toArray, List.set_cons_zero, List.set_cons_succ]
              try clear Q_38
              try clear N_38
              try clear O_38
              refine wpAnyH_take (i := 24) (oi := ⟨some 4, _, _, _, _, _⟩) (v := ?vt24_40) rfl (by kernel_rfl) (by kernel_rfl) (by kernel_rfl) (fun _ _ _ h => h) (Or.inl ⟨by rfl, ?hyt24_40⟩) (by assumption) ?restt24_40
              case hyt24_40 => intro W hSW; go_simp; try rfl
              try simp only [Act.put, List.setIfInBounds_toArray, List.set_cons_zero, List.set_cons_succ]
              refine wpAnyH_done (by kernel_rfl) ?_ _
              go_wp2_with fail
              go_ret
              refine ⟨v8, rfl, ?_, bel_after B1.out (Nat.le_refl _) (hHeld)⟩
              rw [bv_append]
              exact own_base ho8 B1.out.size
end Go.Proofs.Ytplilajgncfieaa
