/-
  The bytes of what stands behind data, of the end, and of a central record: Behind, End, Central. Conditions: a name of at most a thousand bytes.
-/
import Derived.Test.YtplilajgncfieaaRD
namespace Go.Proofs.Ytplilajgncfieaa
open Go.RowKit
set_option maxRecDepth 100000

theorem GivesN.from {w0 w : World} {n : Nat} {bs : List Nat} {e : Ending} {w' : World} (h : GivesN w n bs e w') (hb : Below w0.heap.size w0 w) : GivesN w0 n bs e w' := by
  obtain ⟨g, rfl, h1, h2, h3⟩ := h
  exact ⟨g, rfl, h1, Nat.le_trans hb.size h2, bel_after hb (Nat.le_refl _) h3⟩
theorem GivesN.row {w : World} {n : Nat} {bs : List Nat} {e : Ending} {w' : World} (h : GivesN w n bs e w') (hn : bs.length = n) (hm : n ≤ 1000000) : GivesRow w 5 1 n (bv bs) e w' := by
  obtain ⟨g, rfl, h1, h2, h3⟩ := h
  exact ⟨_, rfl, own_of_whole h1 (by simp [hn]) (by simp only [maxLen]; omega) h2, h3⟩
theorem lit0 (W : World) (arr : Array Value) (k : Nat) (z : Int) (hk : Wide z) (hz : z = k) (ns : List Int) (harr : arr = (iv ns).toArray) (m : Nat) (hm : ns.length = m) (hpos : 0 < m) (hle : m ≤ 100) (L : List Nat) (hL : putL ns k = L) (n : Nat) (hn : L.length = n) (gn : Nat) (hg : gn = W.heap.size) :
    Calls Try.prog 27 #[.slice none 0 0, .int .i64 z, .slice (some ⟨gn, 0, none⟩) m m] (W.alloc (.cells arr 3)) (GivesN W n L) := by
  subst harr hg
  exact (put0 k z hk hz ns m hm hpos hle L hL n hn _ _ (Whole.new W 3 _)).mono (fun e w' h => h.from ((Below.refl _ _).alloc (Nat.le_refl _) _))
theorem lit1 (W : World) (arr : Array Value) (k : Nat) (z : Int) (hk : Wide z) (hz : z = k) (ns : List Int) (harr : arr = (iv ns).toArray) (m : Nat) (hm : ns.length = m) (hpos : 0 < m) (hle : m ≤ 100) (L1 : List Nat) (n1 : Nat) (hn1 : L1.length = n1) (h1 : n1 ≤ 900000) (L : List Nat) (hL : L1 ++ putL ns k = L) (n : Nat) (hn : L.length = n) (g : Nat) (hW : Whole W g 5 (bv L1).toArray) (gn : Nat) (hg : gn = W.heap.size) :
    Calls Try.prog 27 #[.slice (some ⟨g, 0, none⟩) n1 n1, .int .i64 z, .slice (some ⟨gn, 0, none⟩) m m] (W.alloc (.cells arr 3)) (GivesN W n L) := by
  subst harr hg
  exact (put1 k z hk hz ns m hm hpos hle L1 n1 hn1 h1 L hL n hn _ _ _ (hW.alloc _) (Whole.new W 3 _)).mono (fun e w' h => h.from ((Below.refl _ _).alloc (Nat.le_refl _) _))

/-- What stands behind data. -/
def behindL (r : Rec) : List Nat := putL [134695760, r.su, r.pa, r.si] 4
theorem behind_any (me : Int) (da cl su : Nat) (pa si : Int) (na : ByteArray) (of : Int) (hr : RecIn ⟨me, da, cl, su, pa, si, na, of⟩) (w : World) :
    Calls Try.prog 9 #[.agg #[.int .i64 me, .int .u16 da, .int .u16 cl, .int .u32 su, .int .i64 pa, .int .i64 si, .string na, .int .i64 of]] w (GivesRow w 5 1 16 (bv (behindL ⟨me, da, cl, su, pa, si, na, of⟩))) := by
  obtain ⟨L1, hL1⟩ : ∃ l, behindL ⟨me, da, cl, su, pa, si, na, of⟩ = l := ⟨_, rfl⟩
  have hn1 : L1.length = 16 := by rw [← hL1]; simp [behindL, putL_length]
  have hL1' : putL [134695760, (su : Int), pa, si] 4 = L1 := hL1
  have w3 := nat_wrap64 (n := su) (by have := hr.su; simp only at this; omega)
  have B0 := Lib.hid ((Below.refl w.heap.size w).alloc (Nat.le_refl _) (.cells (recC ⟨me, da, cl, su, pa, si, na, of⟩) 27))
  simp only [recC] at B0
  rw [hL1]
  have P := Lib.hid (fun W arr harr gn hg => lit0 W arr 4 4 (.inr (.inr (.inl rfl))) rfl [134695760, (su : Int), pa, si] harr 4 rfl (by omega) (by omega) L1 hL1' 16 hn1 gn hg)
  have HN := Lib.hid hn1
  clear hL1 hL1' hn1 hr
  go_enter Try.func9, Try.ntmps9
  go_wp2_with fail
  generalize hw0 : w.alloc _ = w0 at B0 ⊢
  have hg : w.heap.size + 1 = w0.heap.size := by rw [← hw0]; simp
  clear hw0
  refine (P.out w0 _ rfl _ hg).mono ?_
  intro e w1 h
  have H := Lib.hid ((h.from B0.out).row HN.out (by omega))
  obtain ⟨g1, rfl, _⟩ := h
  go_wp2_with fail
  go_ret
  exact H.out

/-- The end's bytes. -/
def endL (many size off : Int) : List Nat := putL [101010256] 4 ++ putL [0, 0, many, many] 2 ++ putL [size, off] 4 ++ putL [0] 2
theorem end_any (many size off : Int) (w : World) :
    Calls Try.prog 13 #[.int .i64 many, .int .i64 size, .int .i64 off] w (GivesRow w 5 1 22 (bv (endL many size off))) := by
  obtain ⟨L1, hL1⟩ : ∃ l, putL [101010256] 4 = l := ⟨_, rfl⟩
  have hn1 : L1.length = 4 := by rw [← hL1]; rfl
  obtain ⟨L2, hL2⟩ : ∃ l, L1 ++ putL [0, 0, many, many] 2 = l := ⟨_, rfl⟩
  have hn2 : L2.length = 12 := by rw [← hL2, List.length_append, hn1, putL_length]; rfl
  obtain ⟨L3, hL3⟩ : ∃ l, L2 ++ putL [size, off] 4 = l := ⟨_, rfl⟩
  have hn3 : L3.length = 20 := by rw [← hL3, List.length_append, hn2, putL_length]; rfl
  obtain ⟨L4, hL4⟩ : ∃ l, L3 ++ putL [0] 2 = l := ⟨_, rfl⟩
  have hn4 : L4.length = 22 := by rw [← hL4, List.length_append, hn3, putL_length]; rfl
  have hX : endL many size off = L4 := by rw [← hL4, ← hL3, ← hL2, ← hL1]; rfl
  rw [hX]
  have P1 := Lib.hid (fun W arr harr gn hg => lit0 W arr 4 4 (.inr (.inr (.inl rfl))) rfl [101010256] harr 1 rfl (by omega) (by omega) L1 hL1 4 hn1 gn hg)
  have P2 := Lib.hid (fun W arr harr g hW gn hg => lit1 W arr 2 2 (.inr (.inl rfl)) rfl [0, 0, many, many] harr 4 rfl (by omega) (by omega) L1 4 hn1 (by omega) L2 hL2 12 hn2 g hW gn hg)
  have P3 := Lib.hid (fun W arr harr g hW gn hg => lit1 W arr 4 4 (.inr (.inr (.inl rfl))) rfl [size, off] harr 2 rfl (by omega) (by omega) L2 12 hn2 (by omega) L3 hL3 20 hn3 g hW gn hg)
  have P4 := Lib.hid (fun W arr harr g hW gn hg => lit1 W arr 2 2 (.inr (.inl rfl)) rfl [0] harr 1 rfl (by omega) (by omega) L3 20 hn3 (by omega) L4 hL4 22 hn4 g hW gn hg)
  have HN := Lib.hid hn4
  clear hL1 hL2 hL3 hL4 hn1 hn2 hn3 hn4 hX
  go_enter Try.func13, Try.ntmps13
  go_wp2_with fail
  refine (P1.out w _ rfl _ rfl).mono ?_
  rintro e w1 ⟨g1, rfl, W1, _, b1⟩
  have W1 := Lib.hid W1; have B1 := Lib.hid b1; clear b1
  go_wp2_with fail
  refine (P2.out w1 _ rfl _ W1.out _ rfl).mono ?_
  rintro e w2 ⟨g2, rfl, W2, _, b2⟩
  have W2 := Lib.hid W2; have B2 := Lib.hid (bel_after B1.out (Nat.le_refl _) b2); clear b2
  go_wp2_with fail
  refine (P3.out w2 _ rfl _ W2.out _ rfl).mono ?_
  rintro e w3 ⟨g3, rfl, W3, _, b3⟩
  have W3 := Lib.hid W3; have B3 := Lib.hid (bel_after B2.out (Nat.le_refl _) b3); clear b3
  go_wp2_with fail
  refine (P4.out w3 _ rfl _ W3.out _ rfl).mono ?_
  intro e w4 h
  have H := Lib.hid ((h.from B3.out).row HN.out (by omega))
  obtain ⟨g4, rfl, _⟩ := h
  go_wp2_with fail
  go_ret
  exact H.out

theorem wpList_append_str (w : World) {ops : Array Oper} {rest : List Oper} {o : Oper} {a : Act} {Q : Exit → Act → World → Prop} (hgd : o.guard = none) (sl x : Operand)
    (ho : o.op = .call { callee := .builtin .append, args := #[sl, x], argTypes := #[29, 9] })
    (g n : Nat) (bs : List Nat) (hn : bs.length = n) (hs : a.eval sl = .slice (some ⟨g, 0, none⟩) n n) (hW : Whole w g 5 (bv bs).toArray) (s : ByteArray) (hx : a.eval x = .string s) (hle : n + s.size ≤ 1000000)
    (h : ∀ v' w', w'.ownsRow g 5 1 v' (n + s.size) (bv (bs ++ strL s)) → Below g w w' → wpList Try.prog ops Q rest (a.put o.dst v') w') :
    wpList Try.prog ops Q (o :: rest) a w := by
  refine wpList_plain hgd fun K hK => ?_
  obtain ⟨i0, hi0, hz0, hz1, hz2⟩ := info_parts byte_info
  have hown : w.ownsRow g 5 1 (.slice (some ⟨g, 0, none⟩) n n) n (bv bs) := own_of_whole hW (by simp [hn]) (by simp [maxLen]; omega) (Nat.le_refl _)
  have hlt := hW.lt
  obtain ⟨v', w', hrun, h2, h3, h4⟩ := Go.Lib.run_append_own_string (P := Try.prog) w g 29 9 o.type 5 i0 Try.underlying29 Try.underlying9 hi0 hz0 hz1 hz2 _ n (bv bs) hown s (by simp [maxLen]; omega) (by omega) (by omega)
  unfold Oper.wp
  simp [execOp, ho, resolve, invoke, builtin, hs, hx, hrun, Result.andThen]
  refine hK _ _ (h v' w' (by rw [bv_append, ← strCells_bv]; exact h2) ?_)
  exact (Below.refl _ _).grown h3 (by omega) (fun k hk => by simp [Value.ownBlock] at hk; omega)

/-- A central record's bytes. -/
def centralL (r : Rec) (b : Bool) : List Nat := putL [33639248] 4 ++ putL [20, 20] 2 ++ sharedL r b ++ putL [0, 0, 0] 2 ++ putL [0, r.of] 4 ++ strL r.na
set_option linter.unusedSimpArgs false in
set_option maxHeartbeats 4000000 in
theorem central_any (me : Int) (da cl su : Nat) (pa si : Int) (na : ByteArray) (of : Int) (hr : RecIn ⟨me, da, cl, su, pa, si, na, of⟩) (hna : na.size ≤ 1000) (be : Bool) (w : World) :
    Calls Try.prog 11 #[.agg #[.int .i64 me, .int .u16 da, .int .u16 cl, .int .u32 su, .int .i64 pa, .int .i64 si, .string na, .int .i64 of], .bool be] w (GivesRow w 5 1 (46 + na.size) (bv (centralL ⟨me, da, cl, su, pa, si, na, of⟩ be))) := by
  obtain ⟨L1, hL1⟩ : ∃ l, putL [33639248] 4 = l := ⟨_, rfl⟩
  have hn1 : L1.length = 4 := by rw [← hL1]; rfl
  obtain ⟨L2, hL2⟩ : ∃ l, L1 ++ putL [20, 20] 2 = l := ⟨_, rfl⟩
  have hn2 : L2.length = 8 := by rw [← hL2, List.length_append, hn1, putL_length]; rfl
  obtain ⟨L3, hL3⟩ : ∃ l, L2 ++ sharedL ⟨me, da, cl, su, pa, si, na, of⟩ be = l := ⟨_, rfl⟩
  have hn3 : L3.length = 32 := by rw [← hL3, List.length_append, hn2, sharedL_length]
  obtain ⟨L4, hL4⟩ : ∃ l, L3 ++ putL [0, 0, 0] 2 = l := ⟨_, rfl⟩
  have hn4 : L4.length = 38 := by rw [← hL4, List.length_append, hn3, putL_length]; rfl
  obtain ⟨L5, hL5⟩ : ∃ l, L4 ++ putL [0, of] 4 = l := ⟨_, rfl⟩
  have hn5 : L5.length = 46 := by rw [← hL5, List.length_append, hn4, putL_length]; rfl
  have P1 := Lib.hid (fun W gn hN => put0 4 4 (.inr (.inr (.inl rfl))) rfl [33639248] 1 rfl (by omega) (by omega) L1 hL1 4 hn1 W gn hN)
  have P2 := Lib.hid (fun W g gn hg hN => put1 2 2 (.inr (.inl rfl)) rfl [20, 20] 2 rfl (by omega) (by omega) L1 4 hn1 (by omega) L2 hL2 8 hn2 W g gn hg hN)
  have P3 : Hid (∀ W g, Whole W g 5 (bv L2).toArray → Calls Try.prog 28 #[.slice (some ⟨g, 0, none⟩) 8 8, .agg #[.int .i64 me, .int .u16 da, .int .u16 cl, .int .u32 su, .int .i64 pa, .int .i64 si, .string na, .int .i64 of], .bool be] W (GivesN W 32 L3)) := Lib.hid (fun W g hW => (putShared_any (some ⟨g, 0, none⟩) 8 W.heap.size 8 L2 hn2 (by omega) me da cl su pa si na of hr be W (seen_blockN hW hn2) (Nat.le_refl _)).mono (fun e w' h => GivesN.of h hL3 hn3))
  have P4 := Lib.hid (fun W g gn hg hN => put1 2 2 (.inr (.inl rfl)) rfl [0, 0, 0] 3 rfl (by omega) (by omega) L3 32 hn3 (by omega) L4 hL4 38 hn4 W g gn hg hN)
  have P5 := Lib.hid (fun W g gn hg hN => put1 4 4 (.inr (.inr (.inl rfl))) rfl [0, of] 2 rfl (by omega) (by omega) L4 38 hn4 (by omega) L5 hL5 46 hn5 W g gn hg hN)
  have HX : Hid (centralL ⟨me, da, cl, su, pa, si, na, of⟩ be = L5 ++ strL na) := Lib.hid (by rw [← hL5, ← hL4, ← hL3, ← hL2, ← hL1]; rfl)
  have HN5 := Lib.hid hn5
  clear hL1 hL2 hL3 hL4 hL5 hn1 hn2 hn3 hn4 hn5 hr
  rw [HX.out]
  clear HX
  go_enter Try.func11, Try.ntmps11
  go_upto_region 1 with fail
  have HR := Lib.hid (RecAt.new w ⟨me, da, cl, su, pa, si, na, of⟩)
  have B0 := Lib.hid ((Below.refl w.heap.size w).alloc (Nat.le_refl _) (.cells (recC ⟨me, da, cl, su, pa, si, na, of⟩) 27))
  simp only [recC] at HR B0
  generalize w.alloc _ = w0 at HR B0 ⊢
  obtain ⟨gb, hgb⟩ : ∃ gb, w.heap.size = gb := ⟨_, rfl⟩
  rw [hgb] at HR ⊢
  clear hgb
  go_cut [5] (fun s5 wx => ∃ (g5 : Nat), s5 = .slice (some ⟨g5, 0, none⟩) 32 32 ∧ Hid (Whole wx g5 5 (bv L3).toArray ∧ RecAt wx gb ⟨me, da, cl, su, pa, si, na, of⟩ ∧ Below w.heap.size w wx))
  case first =>
    refine wp_region_held_drew (S := (fun W => Below w0.heap.size w0 W)) (by kernel_rfl) (Below.refl _ _).drew (fun hHeld => ?_)
    have hHeld0 := hHeld
    generalize hwd : w0.drew = wd at *
    clear hwd hHeld0
    refine wpAnyH_take (i := 4) (oi := ⟨some 10, _, _, _, _, _⟩) (v := .agg (recC ⟨me, da, cl, su, pa, si, na, of⟩)) rfl (by kernel_rfl) (by kernel_rfl) (by kernel_rfl) (fun _ _ _ h => h) (Or.inl ⟨by rfl, ?hy4_1⟩) (by assumption) ?rest4_1
    case hy4_1 => intro W hSW; exact RecAt.load W gb _ _ _ rfl rfl (HR.out.bel hSW)
    try simp only [Act.put, List.setIfInBounds_toArray, List.set_cons_zero, List.set_cons_succ]
    refine wpAnyH_take (i := 5) (oi := ⟨some 11, _, _, _, _, _⟩) (v := ?v5_2) rfl (by kernel_rfl) (by kernel_rfl) (by kernel_rfl) (fun _ _ _ h => h) (Or.inl ⟨by rfl, ?hy5_2⟩) (by assumption) ?rest5_2
    case hy5_2 => intro W hSW; go_simp; try rfl
    try simp only [Act.put, List.setIfInBounds_toArray, List.set_cons_zero, List.set_cons_succ]
    refine wpAnyH_ready (rs := [0, 2]) (by kernel_rfl) (by simp) ?_
    refine (AllReadyH.cons (o := ⟨some 6, _, _, _, _, _⟩) rfl (fun K hK => ?_) (AllReadyH.cons (o := ⟨some 8, _, _, _, _, _⟩) rfl (fun K hK => ?_) AllReadyH.nil))
    · go_simp
      have NW : Whole (wd.alloc (.cells #[Value.int IntKind.i64 33639248] 3)) wd.heap.size 3 (iv [33639248]).toArray := Whole.new wd 3 _
      have hb : Below wd.heap.size wd (wd.alloc (.cells #[Value.int IntKind.i64 33639248] 3)) := (Below.refl _ _).alloc (Nat.le_refl _) _
      generalize wd.alloc _ = x3 at *
      obtain ⟨gN1_3, hgN1_3⟩ : ∃ g, wd.heap.size = g := ⟨_, rfl⟩
      rw [hgN1_3] at NW hb ⊢
      rw [← hgN1_3] at hb
      have N1_3 := Lib.hid NW
      refine hK.out _ _ ?_ (fun hHeld2 => ?_)
      · exact bel_after hHeld (Nat.le_refl _) hb
      clear hK K hHeld
      have hHeld := hHeld2; clear hHeld2
      try simp only [Act.put, List.setIfInBounds_toArray, List.set_cons_zero, List.set_cons_succ]
      clear hb
      clear NW
      refine wpAnyH_ready (rs := [1, 2]) (by kernel_rfl) (by simp) ?_
      refine (AllReadyH.cons (o := ⟨some 7, _, _, _, _, _⟩) rfl (fun K hK => ?_) (AllReadyH.cons (o := ⟨some 8, _, _, _, _, _⟩) rfl (fun K hK => ?_) AllReadyH.nil))
      · go_simp
        refine (P1.out x3 _ N1_3.out).mono ?_
        rintro e x4 ⟨gL1_4, rfl, NW, hge, hb⟩
        have N1_4 := Lib.hid (Whole.bel N1_3.out hb)
        have L1_4 := Lib.hid NW
        refine hK.out _ _ ?_ (fun hHeld2 => ?_)
        · exact bel_after hHeld (Nat.le_refl _) hb
        clear hK K hHeld
        have hHeld := hHeld2; clear hHeld2
        try simp only [Act.put, List.setIfInBounds_toArray, List.set_cons_zero, List.set_cons_succ]
        clear hb
        clear NW hge
        try clear N1_3
        refine wpAnyH_ready (rs := [2]) (by kernel_rfl) (by simp) ?_
        refine (AllReadyH.cons (o := ⟨some 8, _, _, _, _, _⟩) rfl (fun K hK => ?_) AllReadyH.nil)
        · go_simp
          have NW : Whole (x4.alloc (.cells #[Value.int IntKind.i64 20, Value.int IntKind.i64 20] 3)) x4.heap.size 3 (iv [20, 20]).toArray := Whole.new x4 3 _
          have hb : Below x4.heap.size x4 (x4.alloc (.cells #[Value.int IntKind.i64 20, Value.int IntKind.i64 20] 3)) := (Below.refl _ _).alloc (Nat.le_refl _) _
          generalize x4.alloc _ = x5 at *
          obtain ⟨gN2_5, hgN2_5⟩ : ∃ g, x4.heap.size = g := ⟨_, rfl⟩
          rw [hgN2_5] at NW hb ⊢
          rw [← hgN2_5] at hb
          have N1_5 := Lib.hid (Whole.bel N1_4.out hb)
          have L1_5 := Lib.hid (Whole.bel L1_4.out hb)
          have N2_5 := Lib.hid NW
          refine hK.out _ _ ?_ (fun hHeld2 => ?_)
          · exact bel_after hHeld (Nat.le_refl _) hb
          clear hK K hHeld
          have hHeld := hHeld2; clear hHeld2
          try simp only [Act.put, List.setIfInBounds_toArray, List.set_cons_zero, List.set_cons_succ]
          clear hb
          clear NW
          try clear N1_4
          try clear L1_4
          refine wpAnyH_ready (rs := [3]) (by kernel_rfl) (by simp) ?_
          refine (AllReadyH.cons (o := ⟨some 9, _, _, _, _, _⟩) rfl (fun K hK => ?_) AllReadyH.nil)
          · go_simp
            refine (P2.out x5 _ _ L1_5.out N2_5.out).mono ?_
            rintro e x6 ⟨gL2_6, rfl, NW, hge, hb⟩
            have N1_6 := Lib.hid (Whole.bel N1_5.out hb)
            have L1_6 := Lib.hid (Whole.bel L1_5.out hb)
            have N2_6 := Lib.hid (Whole.bel N2_5.out hb)
            have L2_6 := Lib.hid NW
            refine hK.out _ _ ?_ (fun hHeld2 => ?_)
            · exact bel_after hHeld (Nat.le_refl _) hb
            clear hK K hHeld
            have hHeld := hHeld2; clear hHeld2
            try simp only [Act.put, List.setIfInBounds_toArray, List.set_cons_zero, List.set_cons_succ]
            clear hb
            clear NW hge
            try clear N1_5
            try clear L1_5
            try clear N2_5
            refine wpAnyH_ready (rs := [6]) (by kernel_rfl) (by simp) ?_
            refine (AllReadyH.cons (o := ⟨some 12, _, _, _, _, _⟩) rfl (fun K hK => ?_) AllReadyH.nil)
            · go_simp
              refine (P3.out x6 _ L2_6.out).mono ?_
              rintro e x7 ⟨gL3_7, rfl, NW, hge, hb⟩
              have N1_7 := Lib.hid (Whole.bel N1_6.out hb)
              have L1_7 := Lib.hid (Whole.bel L1_6.out hb)
              have N2_7 := Lib.hid (Whole.bel N2_6.out hb)
              have L2_7 := Lib.hid (Whole.bel L2_6.out hb)
              have L3_7 := Lib.hid NW
              refine hK.out _ _ ?_ (fun hHeld2 => ?_)
              · exact bel_after hHeld (Nat.le_refl _) hb
              clear hK K hHeld
              have hHeld := hHeld2; clear hHeld2
              try simp only [Act.put, List.setIfInBounds_toArray, List.set_cons_zero, List.set_cons_succ]
              clear hb
              clear NW hge
              try clear N1_6
              try clear L1_6
              try clear N2_6
              try clear L2_6
              refine wpAnyH_take (i := 7) (oi := ⟨some 5, _, _, _, _, _⟩) (v := ?v7_8) rfl (by kernel_rfl) (by kernel_rfl) (by kernel_rfl) (fun _ _ _ h => h) (Or.inl ⟨by rfl, ?hy7_8⟩) (by assumption) ?rest7_8
              case hy7_8 => intro W hSW; go_simp; try rfl
              try simp only [Act.put, List.setIfInBounds_toArray, List.set_cons_zero, List.set_cons_succ]
              refine wpAnyH_done (by kernel_rfl) ?_ _
              go_wp2_with fail
              go_meet
              case rel => exact ⟨gL3_7, rfl, Lib.hid ⟨L3_7.out, HR.out.bel hHeld, bel_after B0.out (Nat.le_refl _) hHeld⟩⟩
      · go_simp
        have NW : Whole (x3.alloc (.cells #[Value.int IntKind.i64 20, Value.int IntKind.i64 20] 3)) x3.heap.size 3 (iv [20, 20]).toArray := Whole.new x3 3 _
        have hb : Below x3.heap.size x3 (x3.alloc (.cells #[Value.int IntKind.i64 20, Value.int IntKind.i64 20] 3)) := (Below.refl _ _).alloc (Nat.le_refl _) _
        generalize x3.alloc _ = x9 at *
        obtain ⟨gN2_9, hgN2_9⟩ : ∃ g, x3.heap.size = g := ⟨_, rfl⟩
        rw [hgN2_9] at NW hb ⊢
        rw [← hgN2_9] at hb
        have N1_9 := Lib.hid (Whole.bel N1_3.out hb)
        have N2_9 := Lib.hid NW
        refine hK.out _ _ ?_ (fun hHeld2 => ?_)
        · exact bel_after hHeld (Nat.le_refl _) hb
        clear hK K hHeld
        have hHeld := hHeld2; clear hHeld2
        try simp only [Act.put, List.setIfInBounds_toArray, List.set_cons_zero, List.set_cons_succ]
        clear hb
        clear NW
        try clear N1_3
        refine wpAnyH_ready (rs := [1]) (by kernel_rfl) (by simp) ?_
        refine (AllReadyH.cons (o := ⟨some 7, _, _, _, _, _⟩) rfl (fun K hK => ?_) AllReadyH.nil)
        · go_simp
          refine (P1.out x9 _ N1_9.out).mono ?_
          rintro e x10 ⟨gL1_10, rfl, NW, hge, hb⟩
          have N1_10 := Lib.hid (Whole.bel N1_9.out hb)
          have N2_10 := Lib.hid (Whole.bel N2_9.out hb)
          have L1_10 := Lib.hid NW
          refine hK.out _ _ ?_ (fun hHeld2 => ?_)
          · exact bel_after hHeld (Nat.le_refl _) hb
          clear hK K hHeld
          have hHeld := hHeld2; clear hHeld2
          try simp only [Act.put, List.setIfInBounds_toArray, List.set_cons_zero, List.set_cons_succ]
          clear hb
          clear NW hge
          try clear N1_9
          try clear N2_9
          refine wpAnyH_ready (rs := [3]) (by kernel_rfl) (by simp) ?_
          refine (AllReadyH.cons (o := ⟨some 9, _, _, _, _, _⟩) rfl (fun K hK => ?_) AllReadyH.nil)
          · go_simp
            refine (P2.out x10 _ _ L1_10.out N2_10.out).mono ?_
            rintro e x11 ⟨gL2_11, rfl, NW, hge, hb⟩
            have N1_11 := Lib.hid (Whole.bel N1_10.out hb)
            have N2_11 := Lib.hid (Whole.bel N2_10.out hb)
            have L1_11 := Lib.hid (Whole.bel L1_10.out hb)
            have L2_11 := Lib.hid NW
            refine hK.out _ _ ?_ (fun hHeld2 => ?_)
            · exact bel_after hHeld (Nat.le_refl _) hb
            clear hK K hHeld
            have hHeld := hHeld2; clear hHeld2
            try simp only [Act.put, List.setIfInBounds_toArray, List.set_cons_zero, List.set_cons_succ]
            clear hb
            clear NW hge
            try clear N1_10
            try clear N2_10
            try clear L1_10
            refine wpAnyH_ready (rs := [6]) (by kernel_rfl) (by simp) ?_
            refine (AllReadyH.cons (o := ⟨some 12, _, _, _, _, _⟩) rfl (fun K hK => ?_) AllReadyH.nil)
            · go_simp
              refine (P3.out x11 _ L2_11.out).mono ?_
              rintro e x12 ⟨gL3_12, rfl, NW, hge, hb⟩
              have N1_12 := Lib.hid (Whole.bel N1_11.out hb)
              have N2_12 := Lib.hid (Whole.bel N2_11.out hb)
              have L1_12 := Lib.hid (Whole.bel L1_11.out hb)
              have L2_12 := Lib.hid (Whole.bel L2_11.out hb)
              have L3_12 := Lib.hid NW
              refine hK.out _ _ ?_ (fun hHeld2 => ?_)
              · exact bel_after hHeld (Nat.le_refl _) hb
              clear hK K hHeld
              have hHeld := hHeld2; clear hHeld2
              try simp only [Act.put, List.setIfInBounds_toArray, List.set_cons_zero, List.set_cons_succ]
              clear hb
              clear NW hge
              try clear N1_11
              try clear N2_11
              try clear L1_11
              try clear L2_11
              refine wpAnyH_take (i := 7) (oi := ⟨some 5, _, _, _, _, _⟩) (v := ?v7_13) rfl (by kernel_rfl) (by kernel_rfl) (by kernel_rfl) (fun _ _ _ h => h) (Or.inl ⟨by rfl, ?hy7_13⟩) (by assumption) ?rest7_13
              case hy7_13 => intro W hSW; go_simp; try rfl
              try simp only [Act.put, List.setIfInBounds_toArray, List.set_cons_zero, List.set_cons_succ]
              refine wpAnyH_done (by kernel_rfl) ?_ _
              go_wp2_with fail
              go_meet
              case rel => exact ⟨gL3_12, rfl, Lib.hid ⟨L3_12.out, HR.out.bel hHeld, bel_after B0.out (Nat.le_refl _) hHeld⟩⟩
    · go_simp
      have NW : Whole (wd.alloc (.cells #[Value.int IntKind.i64 20, Value.int IntKind.i64 20] 3)) wd.heap.size 3 (iv [20, 20]).toArray := Whole.new wd 3 _
      have hb : Below wd.heap.size wd (wd.alloc (.cells #[Value.int IntKind.i64 20, Value.int IntKind.i64 20] 3)) := (Below.refl _ _).alloc (Nat.le_refl _) _
      generalize wd.alloc _ = x14 at *
      obtain ⟨gN2_14, hgN2_14⟩ : ∃ g, wd.heap.size = g := ⟨_, rfl⟩
      rw [hgN2_14] at NW hb ⊢
      rw [← hgN2_14] at hb
      have N2_14 := Lib.hid NW
      refine hK.out _ _ ?_ (fun hHeld2 => ?_)
      · exact bel_after hHeld (Nat.le_refl _) hb
      clear hK K hHeld
      have hHeld := hHeld2; clear hHeld2
      try simp only [Act.put, List.setIfInBounds_toArray, List.set_cons_zero, List.set_cons_succ]
      clear hb
      clear NW
      refine wpAnyH_ready (rs := [0]) (by kernel_rfl) (by simp) ?_
      refine (AllReadyH.cons (o := ⟨some 6, _, _, _, _, _⟩) rfl (fun K hK => ?_) AllReadyH.nil)
      · go_simp
        have NW : Whole (x14.alloc (.cells #[Value.int IntKind.i64 33639248] 3)) x14.heap.size 3 (iv [33639248]).toArray := Whole.new x14 3 _
        have hb : Below x14.heap.size x14 (x14.alloc (.cells #[Value.int IntKind.i64 33639248] 3)) := (Below.refl _ _).alloc (Nat.le_refl _) _
        generalize x14.alloc _ = x15 at *
        obtain ⟨gN1_15, hgN1_15⟩ : ∃ g, x14.heap.size = g := ⟨_, rfl⟩
        rw [hgN1_15] at NW hb ⊢
        rw [← hgN1_15] at hb
        have N2_15 := Lib.hid (Whole.bel N2_14.out hb)
        have N1_15 := Lib.hid NW
        refine hK.out _ _ ?_ (fun hHeld2 => ?_)
        · exact bel_after hHeld (Nat.le_refl _) hb
        clear hK K hHeld
        have hHeld := hHeld2; clear hHeld2
        try simp only [Act.put, List.setIfInBounds_toArray, List.set_cons_zero, List.set_cons_succ]
        clear hb
        clear NW
        try clear N2_14
        refine wpAnyH_ready (rs := [1]) (by kernel_rfl) (by simp) ?_
        refine (AllReadyH.cons (o := ⟨some 7, _, _, _, _, _⟩) rfl (fun K hK => ?_) AllReadyH.nil)
        · go_simp
          refine (P1.out x15 _ N1_15.out).mono ?_
          rintro e x16 ⟨gL1_16, rfl, NW, hge, hb⟩
          have N2_16 := Lib.hid (Whole.bel N2_15.out hb)
          have N1_16 := Lib.hid (Whole.bel N1_15.out hb)
          have L1_16 := Lib.hid NW
          refine hK.out _ _ ?_ (fun hHeld2 => ?_)
          · exact bel_after hHeld (Nat.le_refl _) hb
          clear hK K hHeld
          have hHeld := hHeld2; clear hHeld2
          try simp only [Act.put, List.setIfInBounds_toArray, List.set_cons_zero, List.set_cons_succ]
          clear hb
          clear NW hge
          try clear N2_15
          try clear N1_15
          refine wpAnyH_ready (rs := [3]) (by kernel_rfl) (by simp) ?_
          refine (AllReadyH.cons (o := ⟨some 9, _, _, _, _, _⟩) rfl (fun K hK => ?_) AllReadyH.nil)
          · go_simp
            refine (P2.out x16 _ _ L1_16.out N2_16.out).mono ?_
            rintro e x17 ⟨gL2_17, rfl, NW, hge, hb⟩
            have N2_17 := Lib.hid (Whole.bel N2_16.out hb)
            have N1_17 := Lib.hid (Whole.bel N1_16.out hb)
            have L1_17 := Lib.hid (Whole.bel L1_16.out hb)
            have L2_17 := Lib.hid NW
            refine hK.out _ _ ?_ (fun hHeld2 => ?_)
            · exact bel_after hHeld (Nat.le_refl _) hb
            clear hK K hHeld
            have hHeld := hHeld2; clear hHeld2
            try simp only [Act.put, List.setIfInBounds_toArray, List.set_cons_zero, List.set_cons_succ]
            clear hb
            clear NW hge
            try clear N2_16
            try clear N1_16
            try clear L1_16
            refine wpAnyH_ready (rs := [6]) (by kernel_rfl) (by simp) ?_
            refine (AllReadyH.cons (o := ⟨some 12, _, _, _, _, _⟩) rfl (fun K hK => ?_) AllReadyH.nil)
            · go_simp
              refine (P3.out x17 _ L2_17.out).mono ?_
              rintro e x18 ⟨gL3_18, rfl, NW, hge, hb⟩
              have N2_18 := Lib.hid (Whole.bel N2_17.out hb)
              have N1_18 := Lib.hid (Whole.bel N1_17.out hb)
              have L1_18 := Lib.hid (Whole.bel L1_17.out hb)
              have L2_18 := Lib.hid (Whole.bel L2_17.out hb)
              have L3_18 := Lib.hid NW
              refine hK.out _ _ ?_ (fun hHeld2 => ?_)
              · exact bel_after hHeld (Nat.le_refl _) hb
              clear hK K hHeld
              have hHeld := hHeld2; clear hHeld2
              try simp only [Act.put, List.setIfInBounds_toArray, List.set_cons_zero, List.set_cons_succ]
              clear hb
              clear NW hge
              try clear N2_17
              try clear N1_17
              try clear L1_17
              try clear L2_17
              refine wpAnyH_take (i := 7) (oi := ⟨some 5, _, _, _, _, _⟩) (v := ?v7_19) rfl (by kernel_rfl) (by kernel_rfl) (by kernel_rfl) (fun _ _ _ h => h) (Or.inl ⟨by rfl, ?hy7_19⟩) (by assumption) ?rest7_19
              case hy7_19 => intro W hSW; go_simp; try rfl
              try simp only [Act.put, List.setIfInBounds_toArray, List.set_cons_zero, List.set_cons_succ]
              refine wpAnyH_done (by kernel_rfl) ?_ _
              go_wp2_with fail
              go_meet
              case rel => exact ⟨gL3_18, rfl, Lib.hid ⟨L3_18.out, HR.out.bel hHeld, bel_after B0.out (Nat.le_refl _) hHeld⟩⟩
  case rest =>
    obtain ⟨g5, rfl, h⟩ := hcut
    obtain ⟨W1, R1, B1⟩ := h.out
    have W1 := Lib.hid W1; have R1 := Lib.hid R1; have B1 := Lib.hid B1
    clear h HR B0 P1 P2 P3 w0
    go_upto_region 2 with fail
    generalize wc = w1 at *
    go_cut [5] (fun s5 wx => ∃ (g6 : Nat), s5 = .slice (some ⟨g6, 0, none⟩) 46 46 ∧ Hid (Whole wx g6 5 (bv L5).toArray ∧ RecAt wx gb ⟨me, da, cl, su, pa, si, na, of⟩ ∧ Below w.heap.size w wx ∧ w.heap.size ≤ g6))
    case first =>
      refine wp_region_held_drew (S := (fun W => Below w1.heap.size w1 W)) (by kernel_rfl) (Below.refl _ _).drew (fun hHeld => ?_)
      have hHeld0 := hHeld
      have L3_0 := Lib.hid (Whole.bel W1.out hHeld0)
      generalize hwd : w1.drew = wd at *
      clear hwd hHeld0
      refine wpAnyH_take (i := 0) (oi := ⟨some 13, _, _, _, _, _⟩) (v := ?vq0_1) rfl (by kernel_rfl) (by kernel_rfl) (by kernel_rfl) (fun _ _ _ h => h) (Or.inl ⟨by rfl, ?hyq0_1⟩) (by assumption) ?restq0_1
      case hyq0_1 => intro W hSW; go_simp; try rfl
      try simp only [Act.put, List.setIfInBounds_toArray, List.set_cons_zero, List.set_cons_succ]
      refine wpAnyH_take (i := 3) (oi := ⟨some 16, _, _, _, _, _⟩) (v := ?vq3_2) rfl (by kernel_rfl) (by kernel_rfl) (by kernel_rfl) (fun _ _ _ h => h) (Or.inl ⟨by rfl, ?hyq3_2⟩) (by assumption) ?restq3_2
      case hyq3_2 => intro W hSW; go_simp; try rfl
      try simp only [Act.put, List.setIfInBounds_toArray, List.set_cons_zero, List.set_cons_succ]
      refine wpAnyH_take (i := 4) (oi := ⟨some 17, _, _, _, _, _⟩) (v := ?vq4_3) rfl (by kernel_rfl) (by kernel_rfl) (by kernel_rfl) (fun _ _ _ h => h) (Or.inl ⟨by rfl, ?hyq4_3⟩) (by assumption) ?restq4_3
      case hyq4_3 => intro W hSW; obtain ⟨c0, cd, ck, c3, c4, c5, c6, c7⟩ := RecAt.cells (R1.out.bel hSW); go_simp; try rfl
      try simp only [Act.put, List.setIfInBounds_toArray, List.set_cons_zero, List.set_cons_succ]
      refine wpAnyH_ready (rs := [1, 5]) (by kernel_rfl) (by simp) ?_
      refine (AllReadyH.cons (o := ⟨some 14, _, _, _, _, _⟩) rfl (fun K hK => ?_) (AllReadyH.cons (o := ⟨some 18, _, _, _, _, _⟩) rfl (fun K hK => ?_) AllReadyH.nil))
      · go_simp
        have NW : Whole (wd.alloc (.cells #[Value.int IntKind.i64 0, Value.int IntKind.i64 0, Value.int IntKind.i64 0] 3)) wd.heap.size 3 (iv [0, 0, 0]).toArray := Whole.new wd 3 _
        have hb : Below wd.heap.size wd (wd.alloc (.cells #[Value.int IntKind.i64 0, Value.int IntKind.i64 0, Value.int IntKind.i64 0] 3)) := (Below.refl _ _).alloc (Nat.le_refl _) _
        generalize wd.alloc _ = x4 at *
        obtain ⟨gN4_4, hgN4_4⟩ : ∃ g, wd.heap.size = g := ⟨_, rfl⟩
        rw [hgN4_4] at NW hb ⊢
        rw [← hgN4_4] at hb
        have L3_4 := Lib.hid (Whole.bel L3_0.out hb)
        have N4_4 := Lib.hid NW
        refine hK.out _ _ ?_ (fun hHeld2 => ?_)
        · exact bel_after hHeld (Nat.le_refl _) hb
        clear hK K hHeld
        have hHeld := hHeld2; clear hHeld2
        try simp only [Act.put, List.setIfInBounds_toArray, List.set_cons_zero, List.set_cons_succ]
        clear hb
        clear NW
        try clear L3_0
        refine wpAnyH_ready (rs := [2, 5]) (by kernel_rfl) (by simp) ?_
        refine (AllReadyH.cons (o := ⟨some 15, _, _, _, _, _⟩) rfl (fun K hK => ?_) (AllReadyH.cons (o := ⟨some 18, _, _, _, _, _⟩) rfl (fun K hK => ?_) AllReadyH.nil))
        · go_simp
          refine (P4.out x4 _ _ L3_4.out N4_4.out).mono ?_
          rintro e x5 ⟨gL4_5, rfl, NW, hge, hb⟩
          have L3_5 := Lib.hid (Whole.bel L3_4.out hb)
          have N4_5 := Lib.hid (Whole.bel N4_4.out hb)
          have L4_5 := Lib.hid NW
          refine hK.out _ _ ?_ (fun hHeld2 => ?_)
          · exact bel_after hHeld (Nat.le_refl _) hb
          clear hK K hHeld
          have hHeld := hHeld2; clear hHeld2
          try simp only [Act.put, List.setIfInBounds_toArray, List.set_cons_zero, List.set_cons_succ]
          clear hb
          clear NW hge
          try clear L3_4
          try clear N4_4
          refine wpAnyH_ready (rs := [5]) (by kernel_rfl) (by simp) ?_
          refine (AllReadyH.cons (o := ⟨some 18, _, _, _, _, _⟩) rfl (fun K hK => ?_) AllReadyH.nil)
          · go_simp
            have NW : Whole (x5.alloc (.cells #[Value.int IntKind.i64 0, Value.int IntKind.i64 of] 3)) x5.heap.size 3 (iv [0, of]).toArray := Whole.new x5 3 _
            have hb : Below x5.heap.size x5 (x5.alloc (.cells #[Value.int IntKind.i64 0, Value.int IntKind.i64 of] 3)) := (Below.refl _ _).alloc (Nat.le_refl _) _
            generalize x5.alloc _ = x6 at *
            obtain ⟨gN5_6, hgN5_6⟩ : ∃ g, x5.heap.size = g := ⟨_, rfl⟩
            rw [hgN5_6] at NW hb ⊢
            rw [← hgN5_6] at hb
            have L3_6 := Lib.hid (Whole.bel L3_5.out hb)
            have N4_6 := Lib.hid (Whole.bel N4_5.out hb)
            have L4_6 := Lib.hid (Whole.bel L4_5.out hb)
            have N5_6 := Lib.hid NW
            refine hK.out _ _ ?_ (fun hHeld2 => ?_)
            · exact bel_after hHeld (Nat.le_refl _) hb
            clear hK K hHeld
            have hHeld := hHeld2; clear hHeld2
            try simp only [Act.put, List.setIfInBounds_toArray, List.set_cons_zero, List.set_cons_succ]
            clear hb
            clear NW
            try clear L3_5
            try clear N4_5
            try clear L4_5
            refine wpAnyH_ready (rs := [6]) (by kernel_rfl) (by simp) ?_
            refine (AllReadyH.cons (o := ⟨some 19, _, _, _, _, _⟩) rfl (fun K hK => ?_) AllReadyH.nil)
            · go_simp
              refine (P5.out x6 _ _ L4_6.out N5_6.out).mono ?_
              rintro e x7 ⟨gL5_7, rfl, NW, hge, hb⟩
              have hge5 : w.heap.size ≤ gL5_7 := Nat.le_trans B1.out.size (Nat.le_trans hHeld.size hge)
              have L3_7 := Lib.hid (Whole.bel L3_6.out hb)
              have N4_7 := Lib.hid (Whole.bel N4_6.out hb)
              have L4_7 := Lib.hid (Whole.bel L4_6.out hb)
              have N5_7 := Lib.hid (Whole.bel N5_6.out hb)
              have L5_7 := Lib.hid NW
              refine hK.out _ _ ?_ (fun hHeld2 => ?_)
              · exact bel_after hHeld (Nat.le_refl _) hb
              clear hK K hHeld
              have hHeld := hHeld2; clear hHeld2
              try simp only [Act.put, List.setIfInBounds_toArray, List.set_cons_zero, List.set_cons_succ]
              clear hb
              clear NW hge
              try clear L3_6
              try clear N4_6
              try clear L4_6
              try clear N5_6
              refine wpAnyH_take (i := 7) (oi := ⟨some 5, _, _, _, _, _⟩) (v := ?vq7_8) rfl (by kernel_rfl) (by kernel_rfl) (by kernel_rfl) (fun _ _ _ h => h) (Or.inl ⟨by rfl, ?hyq7_8⟩) (by assumption) ?restq7_8
              case hyq7_8 => intro W hSW; go_simp; try rfl
              try simp only [Act.put, List.setIfInBounds_toArray, List.set_cons_zero, List.set_cons_succ]
              refine wpAnyH_done (by kernel_rfl) ?_ _
              go_wp2_with fail
              go_meet
              case rel => exact ⟨gL5_7, rfl, Lib.hid ⟨L5_7.out, R1.out.bel hHeld, bel_after B1.out (Nat.le_refl _) hHeld, hge5⟩⟩
        · go_simp
          have NW : Whole (x4.alloc (.cells #[Value.int IntKind.i64 0, Value.int IntKind.i64 of] 3)) x4.heap.size 3 (iv [0, of]).toArray := Whole.new x4 3 _
          have hb : Below x4.heap.size x4 (x4.alloc (.cells #[Value.int IntKind.i64 0, Value.int IntKind.i64 of] 3)) := (Below.refl _ _).alloc (Nat.le_refl _) _
          generalize x4.alloc _ = x9 at *
          obtain ⟨gN5_9, hgN5_9⟩ : ∃ g, x4.heap.size = g := ⟨_, rfl⟩
          rw [hgN5_9] at NW hb ⊢
          rw [← hgN5_9] at hb
          have L3_9 := Lib.hid (Whole.bel L3_4.out hb)
          have N4_9 := Lib.hid (Whole.bel N4_4.out hb)
          have N5_9 := Lib.hid NW
          refine hK.out _ _ ?_ (fun hHeld2 => ?_)
          · exact bel_after hHeld (Nat.le_refl _) hb
          clear hK K hHeld
          have hHeld := hHeld2; clear hHeld2
          try simp only [Act.put, List.setIfInBounds_toArray, List.set_cons_zero, List.set_cons_succ]
          clear hb
          clear NW
          try clear L3_4
          try clear N4_4
          refine wpAnyH_ready (rs := [2]) (by kernel_rfl) (by simp) ?_
          refine (AllReadyH.cons (o := ⟨some 15, _, _, _, _, _⟩) rfl (fun K hK => ?_) AllReadyH.nil)
          · go_simp
            refine (P4.out x9 _ _ L3_9.out N4_9.out).mono ?_
            rintro e x10 ⟨gL4_10, rfl, NW, hge, hb⟩
            have L3_10 := Lib.hid (Whole.bel L3_9.out hb)
            have N4_10 := Lib.hid (Whole.bel N4_9.out hb)
            have N5_10 := Lib.hid (Whole.bel N5_9.out hb)
            have L4_10 := Lib.hid NW
            refine hK.out _ _ ?_ (fun hHeld2 => ?_)
            · exact bel_after hHeld (Nat.le_refl _) hb
            clear hK K hHeld
            have hHeld := hHeld2; clear hHeld2
            try simp only [Act.put, List.setIfInBounds_toArray, List.set_cons_zero, List.set_cons_succ]
            clear hb
            clear NW hge
            try clear L3_9
            try clear N4_9
            try clear N5_9
            refine wpAnyH_ready (rs := [6]) (by kernel_rfl) (by simp) ?_
            refine (AllReadyH.cons (o := ⟨some 19, _, _, _, _, _⟩) rfl (fun K hK => ?_) AllReadyH.nil)
            · go_simp
              refine (P5.out x10 _ _ L4_10.out N5_10.out).mono ?_
              rintro e x11 ⟨gL5_11, rfl, NW, hge, hb⟩
              have hge5 : w.heap.size ≤ gL5_11 := Nat.le_trans B1.out.size (Nat.le_trans hHeld.size hge)
              have L3_11 := Lib.hid (Whole.bel L3_10.out hb)
              have N4_11 := Lib.hid (Whole.bel N4_10.out hb)
              have N5_11 := Lib.hid (Whole.bel N5_10.out hb)
              have L4_11 := Lib.hid (Whole.bel L4_10.out hb)
              have L5_11 := Lib.hid NW
              refine hK.out _ _ ?_ (fun hHeld2 => ?_)
              · exact bel_after hHeld (Nat.le_refl _) hb
              clear hK K hHeld
              have hHeld := hHeld2; clear hHeld2
              try simp only [Act.put, List.setIfInBounds_toArray, List.set_cons_zero, List.set_cons_succ]
              clear hb
              clear NW hge
              try clear L3_10
              try clear N4_10
              try clear N5_10
              try clear L4_10
              refine wpAnyH_take (i := 7) (oi := ⟨some 5, _, _, _, _, _⟩) (v := ?vq7_12) rfl (by kernel_rfl) (by kernel_rfl) (by kernel_rfl) (fun _ _ _ h => h) (Or.inl ⟨by rfl, ?hyq7_12⟩) (by assumption) ?restq7_12
              case hyq7_12 => intro W hSW; go_simp; try rfl
              try simp only [Act.put, List.setIfInBounds_toArray, List.set_cons_zero, List.set_cons_succ]
              refine wpAnyH_done (by kernel_rfl) ?_ _
              go_wp2_with fail
              go_meet
              case rel => exact ⟨gL5_11, rfl, Lib.hid ⟨L5_11.out, R1.out.bel hHeld, bel_after B1.out (Nat.le_refl _) hHeld, hge5⟩⟩
      · go_simp
        have NW : Whole (wd.alloc (.cells #[Value.int IntKind.i64 0, Value.int IntKind.i64 of] 3)) wd.heap.size 3 (iv [0, of]).toArray := Whole.new wd 3 _
        have hb : Below wd.heap.size wd (wd.alloc (.cells #[Value.int IntKind.i64 0, Value.int IntKind.i64 of] 3)) := (Below.refl _ _).alloc (Nat.le_refl _) _
        generalize wd.alloc _ = x13 at *
        obtain ⟨gN5_13, hgN5_13⟩ : ∃ g, wd.heap.size = g := ⟨_, rfl⟩
        rw [hgN5_13] at NW hb ⊢
        rw [← hgN5_13] at hb
        have L3_13 := Lib.hid (Whole.bel L3_0.out hb)
        have N5_13 := Lib.hid NW
        refine hK.out _ _ ?_ (fun hHeld2 => ?_)
        · exact bel_after hHeld (Nat.le_refl _) hb
        clear hK K hHeld
        have hHeld := hHeld2; clear hHeld2
        try simp only [Act.put, List.setIfInBounds_toArray, List.set_cons_zero, List.set_cons_succ]
        clear hb
        clear NW
        try clear L3_0
        refine wpAnyH_ready (rs := [1]) (by kernel_rfl) (by simp) ?_
        refine (AllReadyH.cons (o := ⟨some 14, _, _, _, _, _⟩) rfl (fun K hK => ?_) AllReadyH.nil)
        · go_simp
          have NW : Whole (x13.alloc (.cells #[Value.int IntKind.i64 0, Value.int IntKind.i64 0, Value.int IntKind.i64 0] 3)) x13.heap.size 3 (iv [0, 0, 0]).toArray := Whole.new x13 3 _
          have hb : Below x13.heap.size x13 (x13.alloc (.cells #[Value.int IntKind.i64 0, Value.int IntKind.i64 0, Value.int IntKind.i64 0] 3)) := (Below.refl _ _).alloc (Nat.le_refl _) _
          generalize x13.alloc _ = x14 at *
          obtain ⟨gN4_14, hgN4_14⟩ : ∃ g, x13.heap.size = g := ⟨_, rfl⟩
          rw [hgN4_14] at NW hb ⊢
          rw [← hgN4_14] at hb
          have L3_14 := Lib.hid (Whole.bel L3_13.out hb)
          have N5_14 := Lib.hid (Whole.bel N5_13.out hb)
          have N4_14 := Lib.hid NW
          refine hK.out _ _ ?_ (fun hHeld2 => ?_)
          · exact bel_after hHeld (Nat.le_refl _) hb
          clear hK K hHeld
          have hHeld := hHeld2; clear hHeld2
          try simp only [Act.put, List.setIfInBounds_toArray, List.set_cons_zero, List.set_cons_succ]
          clear hb
          clear NW
          try clear L3_13
          try clear N5_13
          refine wpAnyH_ready (rs := [2]) (by kernel_rfl) (by simp) ?_
          refine (AllReadyH.cons (o := ⟨some 15, _, _, _, _, _⟩) rfl (fun K hK => ?_) AllReadyH.nil)
          · go_simp
            refine (P4.out x14 _ _ L3_14.out N4_14.out).mono ?_
            rintro e x15 ⟨gL4_15, rfl, NW, hge, hb⟩
            have L3_15 := Lib.hid (Whole.bel L3_14.out hb)
            have N5_15 := Lib.hid (Whole.bel N5_14.out hb)
            have N4_15 := Lib.hid (Whole.bel N4_14.out hb)
            have L4_15 := Lib.hid NW
            refine hK.out _ _ ?_ (fun hHeld2 => ?_)
            · exact bel_after hHeld (Nat.le_refl _) hb
            clear hK K hHeld
            have hHeld := hHeld2; clear hHeld2
            try simp only [Act.put, List.setIfInBounds_toArray, List.set_cons_zero, List.set_cons_succ]
            clear hb
            clear NW hge
            try clear L3_14
            try clear N5_14
            try clear N4_14
            refine wpAnyH_ready (rs := [6]) (by kernel_rfl) (by simp) ?_
            refine (AllReadyH.cons (o := ⟨some 19, _, _, _, _, _⟩) rfl (fun K hK => ?_) AllReadyH.nil)
            · go_simp
              refine (P5.out x15 _ _ L4_15.out N5_15.out).mono ?_
              rintro e x16 ⟨gL5_16, rfl, NW, hge, hb⟩
              have hge5 : w.heap.size ≤ gL5_16 := Nat.le_trans B1.out.size (Nat.le_trans hHeld.size hge)
              have L3_16 := Lib.hid (Whole.bel L3_15.out hb)
              have N5_16 := Lib.hid (Whole.bel N5_15.out hb)
              have N4_16 := Lib.hid (Whole.bel N4_15.out hb)
              have L4_16 := Lib.hid (Whole.bel L4_15.out hb)
              have L5_16 := Lib.hid NW
              refine hK.out _ _ ?_ (fun hHeld2 => ?_)
              · exact bel_after hHeld (Nat.le_refl _) hb
              clear hK K hHeld
              have hHeld := hHeld2; clear hHeld2
              try simp only [Act.put, List.setIfInBounds_toArray, List.set_cons_zero, List.set_cons_succ]
              clear hb
              clear NW hge
              try clear L3_15
              try clear N5_15
              try clear N4_15
              try clear L4_15
              refine wpAnyH_take (i := 7) (oi := ⟨some 5, _, _, _, _, _⟩) (v := ?vq7_17) rfl (by kernel_rfl) (by kernel_rfl) (by kernel_rfl) (fun _ _ _ h => h) (Or.inl ⟨by rfl, ?hyq7_17⟩) (by assumption) ?restq7_17
              case hyq7_17 => intro W hSW; go_simp; try rfl
              try simp only [Act.put, List.setIfInBounds_toArray, List.set_cons_zero, List.set_cons_succ]
              refine wpAnyH_done (by kernel_rfl) ?_ _
              go_wp2_with fail
              go_meet
              case rel => exact ⟨gL5_16, rfl, Lib.hid ⟨L5_16.out, R1.out.bel hHeld, bel_after B1.out (Nat.le_refl _) hHeld, hge5⟩⟩
    case rest =>
      obtain ⟨g6, rfl, h⟩ := hcut
      obtain ⟨W2, R2, B2, hge⟩ := h.out
      have W2 := Lib.hid W2; have B2 := Lib.hid B2
      obtain ⟨c0, cd, ck, c3, c4, c5, c6, c7⟩ := RecAt.cells R2
      clear h R2 c0 cd ck c3 c4 c5 c7 W1 R1 B1 P4 P5
      go_wp2_with (at_builtin; refine wpList_append_str wc rfl (.tmp 20) (.tmp 22) rfl g6 46 L5 HN5.out rfl W2.out na rfl (by omega) ?_; intro v8 w8 ho hb8)
      go_ret
      exact ⟨v8, rfl, own_base ho hge, B2.out.trans (hb8.mono hge)⟩
end Go.Proofs.Ytplilajgncfieaa
