/-
  The contract of Write, of tokens: the shortest of three blocks. Conditions: tokens are right, at most a thousand; bytes stay readable while bits are written.
-/
import Derived.Test.YtkjhefjjacokjaaGreatDM
import Derived.Test.YtkjhefjjacokjaaGreatST
import Derived.Test.YtkjhefjjacokjaaGreatCT
import Derived.Test.YtkjhefjjacokjaaGreatG7
import Derived.Deep.DeepCutAuto
namespace Go.Proofs.YtkjhefjjacokjaaGreat
open Go.RowKit
set_option maxRecDepth 100000
theorem load_yields {P : Program} (W : World) (g : Nat) (ty : TypeId) (cs : Array Value) (o : Oper) (a : Act) {x : Operand} (ho : o.op = .load ty x) (hx : a.eval x = .pointer (some ⟨g, 0, none⟩)) (hg : Whole W g ty cs) {d : TypeDesc}
    (hu : P.underlying ty = some d) (hd : (match d with | .struct _ | .array _ _ => true | _ => false) = true) (hi : (P.info? ty).map (·.size) = some cs.size) :
    (execOp a.eval o).run P W = .ok (.value (.agg cs)) W := by
  unfold execOp
  simp only [ho, hx, Instr.loadAt, Instr.sureAddr, Sem.run_bind, Sem.run_pure, Result.andThen_ok, run_loadVar_row W g ty ty cs (0, 0) d hg hu hd hi]
theorem step_store_row {P : Program} (w : World) {ops : Array Oper} {o : Oper} {a : Act} {K : Act → World → Prop} {Q : Exit → Act → World → Prop} {E : Prop} (hgd : o.guard = none) (ty : TypeId) (x y : Operand) (ho : o.op = .store ty x y)
    (g : Nat) (cells : Array Value) (hx : a.eval x = .pointer (some ⟨g, 0, none⟩)) (hy : a.eval y = .agg cells)
    (t : TypeId) (old : Array Value) (hg : w.heap[g]? = some (.cells old t (0, 0))) (hi : (P.info? ty).map (·.size) = some cells.size)
    (hold : old.size = cells.size) (h1 : cells.all (·.oneCell') = true) (h : K (a.put o.dst undef) (w.setRow g cells)) :
    if Region.wanted o (yielded ops a.tmps) = true then Oper.wp P o a w K Q else E := by
  have hw : Region.wanted o (yielded ops a.tmps) = true := by simp [Region.wanted, hgd]
  rw [if_pos hw]
  exact wp_store_row ty x y ho g cells hx hy t old hg hi hold h1 h
/-- How many bits a stored block takes. -/
def stoS (a n : Nat) : Nat := (a + 10) / 8 * 8 - a + 32 + 8 * n
theorem storedBits_any (a n : Nat) (ha : a ≤ 1000) (hn : n ≤ 65535) (w : World) : Calls Tryz.prog 35 #[.int .i64 a, .int .i64 n] w fun e w' => e = .returned (.int .i64 (stoS a n)) ∧ w = w' := by
  obtain ⟨q, hq⟩ : ∃ q, (a + 10) / 8 = q := ⟨_, rfl⟩
  obtain ⟨p, hp⟩ : ∃ p, a + 3 = p := ⟨_, rfl⟩
  have e1 : (a : Int) + 3 = p := by omega
  have w1 : IntKind.i64.wrap (p : Int) = p := IntWalk.i64_in _ (by omega)
  obtain ⟨p2, hp2⟩ : ∃ p2, p + 7 = p2 := ⟨_, rfl⟩
  have e2 : (p : Int) + 7 = p2 := by omega
  have w2 : IntKind.i64.wrap (p2 : Int) = p2 := IntWalk.i64_in _ (by omega)
  have e3 : (p2 : Int).tdiv 8 = q := by rw [Int.tdiv_eq_ediv_of_nonneg (by omega)]; omega
  have e3' : (p2 : Int) / 8 = q := by omega
  have w3 : IntKind.i64.wrap (q : Int) = q := IntWalk.i64_in _ (by omega)
  obtain ⟨r, hr⟩ : ∃ r, q * 8 = r := ⟨_, rfl⟩
  have e4 : (q : Int) * 8 = r := by omega
  have w4 : IntKind.i64.wrap (r : Int) = r := IntWalk.i64_in _ (by omega)
  obtain ⟨d, hd⟩ : ∃ d, r - a = d := ⟨_, rfl⟩
  have e5 : (r : Int) - a = d := by omega
  have w5 : IntKind.i64.wrap (d : Int) = d := IntWalk.i64_in _ (by omega)
  obtain ⟨f, hf⟩ : ∃ f, d + 32 = f := ⟨_, rfl⟩
  have e6 : (d : Int) + 32 = f := by omega
  have w6 : IntKind.i64.wrap (f : Int) = f := IntWalk.i64_in _ (by omega)
  obtain ⟨m, hm⟩ : ∃ m, 8 * n = m := ⟨_, rfl⟩
  have e7 : (8 : Int) * n = m := by omega
  have w7 : IntKind.i64.wrap (m : Int) = m := IntWalk.i64_in _ (by omega)
  obtain ⟨s, hs⟩ : ∃ s, stoS a n = s := ⟨_, rfl⟩
  have hss : s = f + m := by rw [← hs]; unfold stoS; omega
  have e8 : (f : Int) + m = s := by omega
  have w8 : IntKind.i64.wrap (s : Int) = s := IntWalk.i64_in _ (by omega)
  rw [hs]
  clear hq hp hp2 hr hd hf hm hs hss
  go_enter Tryz.func35, Tryz.ntmps35
  go_wp2_with fail
  go_ret
  exact ⟨by first | rfl | simp [*], rfl⟩
theorem padTo_len (l : List Bool) : (padTo l).length = (l.length + 7) / 8 * 8 := by
  unfold padTo
  simp
  omega
theorem stored_len (bits : List Bool) (nb : Nat) (bs : List Nat) (h : bs.length = nb) : (storedH bits nb false ++ unpack bs).length = bits.length + stoS bits.length nb := by
  unfold storedH stoS
  simp only [List.length_append, padTo_len, headB_length, bitsOf_length, unpack_length, h]
  omega
theorem PutPost.from {w0 w w' : World} {B g : Nat} {sv : Value} {bits : List Bool} (h : PutPost w B g sv bits w') (hb : Below w0.heap.size w0 w) : PutPost w0 B g sv bits w' := by
  obtain ⟨s, h1, h2, h3⟩ := h
  exact ⟨s, h1, (Only.of_below hb _).trans h2, fun k hk => (h3 k hk).imp id (fun h => Nat.le_trans hb.size h)⟩
set_option linter.unusedSimpArgs false in
set_option maxHeartbeats 8000000 in
theorem write_any (B g : Nat) (sv : Value) (bits : List Bool) (hbl : bits.length ≤ 1000) (last : Bool) (At : Option Addr) (nt ct Bt : Nat) (l : List Tok) (hl : Tks l) (hnt : nt ≤ 1000) (hln : l.length = nt) (Ab : Option Addr) (nb cb : Nat) (bs : List Nat) (hbs : bs.length = nb) (h256 : ∀ x ∈ bs, x < 256) (hnb : nb ≤ 65535)
    (w : World) (hw : WriterAt w B g sv bits) (hst : Seen w Bt 3 At nt ct (tvs l)) (hBt : Bt ≤ w.heap.size) (hT : ToksIn w At nt ct l) (hBI : BytesIn w g sv Ab nb cb bs) :
    Calls Tryz.prog 14 #[.pointer (some ⟨g, 0, none⟩), .slice At nt ct, .slice Ab nb cb, .bool last] w fun e w' => e = .returned (.int .i64 0) ∧ ∃ X : List Bool, PutPost w B g sv X w' ∧ (X = storedH bits nb last ++ unpack bs ∨ X = bits ++ fixW l last ∨ X = bits ++ dynW (cntL l cnt0) l last) := by
  have hCW : CntW (cntL l cnt0) l := ⟨rfl, hl, by omega⟩
  have hall : l.all rightT = true := List.all_eq_true.2 (fun t ht => (hl t ht).2)
  have CN := Lib.hid (tcounted_any At nt ct Bt l (fun t ht => (hl t ht).1) hnt w hst hBt)
  obtain ⟨F, hF⟩ : ∃ F, cntL l cnt0 = F := ⟨_, rfl⟩
  unfold CntRes at CN
  rw [hF] at hCW CN ⊢
  have CF := Lib.hid (fun W => fixedBlock_any F W)
  have CD := Lib.hid (fun W => dynamicBlock_any F hCW.ok W)
  have HI := Lib.hid (show (Tryz.prog.info? 60).map (·.size) = some (rz 317 F).size by rw [rz_size]; exact (zero_of_info row59).2)
  have hzs9 : Hid (Tryz.zeroCells60.size = (rz 317 F).size) := Lib.hid (by rw [rz_size]; kernel_rfl)
  have hone := Lib.hid (rz_one 317 F)
  have hzs : Hid (Tryz.zeroCells65.size = 320) := Lib.hid (by kernel_rfl)
  obtain ⟨R, hR⟩ : ∃ R, rz 317 F = R := ⟨_, rfl⟩
  rw [hR] at HI hzs9 hone CN CF CD
  have HALL := Lib.hid hall; have HCW := Lib.hid hCW; have HW := Lib.hid hw; have HT := Lib.hid hT; have HBI := Lib.hid hBI; have HBS := Lib.hid hbs; have H256 := Lib.hid h256
  clear hF hR hall hCW hw hst hT hBI hbs h256 hl
  go_enter Tryz.func14, Tryz.ntmps14
  go_wp2_with fail
  refine CN.out.mono ?_
  rintro e w0 hres
  rcases hres with ⟨_, rfl, hb0⟩ | ⟨h0, _⟩
  rotate_left
  · rw [HALL.out] at h0; cases h0
  have B0 := Lib.hid hb0
  have W1 := Lib.hid (heap_alloc_new w0 (.cells Tryz.zeroCells60 60))
  have W2 := Lib.hid (seen59 w0 R)
  have B2 : Hid (Below w0.heap.size w0 ((w0.alloc (.cells Tryz.zeroCells60 60)).setRow w0.heap.size R)) := Lib.hid (below_setRow ((Below.refl _ _).alloc (Nat.le_refl _) _) _ (Nat.le_refl _))
  clear hb0 CN
  go_upto_region 6 with (refine wpList_store_row rfl 60 (.tmp 9) (.tmp 20) rfl w0.heap.size R rfl rfl 60 Tryz.zeroCells60 W1.out HI.out hzs9.out hone.out ?_)
  generalize (w0.alloc (.cells Tryz.zeroCells60 60)).setRow w0.heap.size R = w1 at *
  obtain ⟨g9, hg9⟩ : ∃ g9, w0.heap.size = g9 := ⟨_, rfl⟩
  rw [hg9] at W2 ⊢
  have BEL := Lib.hid (B0.out.trans (B2.out.mono B0.out.size))
  clear B0 B2 W1 hg9
  go_cut [11, 12] (fun s11 s12 wx => ∃ (ga gb : Nat) (C47 C50 : Array Value), s11 = .pointer (some ⟨ga, 0, none⟩) ∧ s12 = .pointer (some ⟨gb, 0, none⟩) ∧ ga ≠ gb ∧ Hid (Whole wx ga 65 C47 ∧ Whole wx gb 65 C50 ∧ FixRaw F C47 wx ∧ DynRaw F C50 wx ∧ Below w.heap.size w wx ∧ w.heap.size ≤ ga ∧ w.heap.size ≤ gb))
  case first =>
    refine wp_region_held_drew (S := (fun W => Whole W g9 60 R ∧ Below w1.heap.size w1 W)) (by kernel_rfl) ⟨W2.out.drew, below_drew (Below.refl _ _)⟩ (fun hHeld => ?_)
    generalize w1.drew = wd at hHeld ⊢
    refine wpAnyH_take (i := 0) (oi := ⟨some 24, _, _, _, _, _⟩) (v := .agg R) rfl (by kernel_rfl) (by kernel_rfl) (by kernel_rfl) (fun _ _ _ h => h) (Or.inl ⟨by rfl, ?hyl0⟩) (by assumption) ?restl0
    case hyl0 => intro W hSW; exact load_yields W g9 60 R _ _ rfl rfl hSW.1 Tryz.underlying60 rfl HI.out
    try simp only [Act.put, List.setIfInBounds_toArray, List.set_cons_zero, List.set_cons_succ]
    refine wpAnyH_take (i := 2) (oi := ⟨some 26, _, _, _, _, _⟩) (v := .agg R) rfl (by kernel_rfl) (by kernel_rfl) (by kernel_rfl) (fun _ _ _ h => h) (Or.inl ⟨by rfl, ?hyl2⟩) (by assumption) ?restl2
    case hyl2 => intro W hSW; exact load_yields W g9 60 R _ _ rfl rfl hSW.1 Tryz.underlying60 rfl HI.out
    try simp only [Act.put, List.setIfInBounds_toArray, List.set_cons_zero, List.set_cons_succ]
    refine wpAnyH_ready (rs := [1, 4, 5]) (by kernel_rfl) (by simp) ?_
    refine (AllReadyH.cons (o := ⟨some 25, _, _, _, _, _⟩) rfl (fun K hK => ?_) (AllReadyH.cons (o := ⟨some 11, _, _, _, _, _⟩) rfl (fun K hK => ?_) (AllReadyH.cons (o := ⟨some 12, _, _, _, _, _⟩) rfl (fun K hK => ?_) AllReadyH.nil)))
    · go_simp
      have hsz := hHeld.2.size
      refine (CF.out _).mono ?_
      rintro e x1 hres
      obtain ⟨C47, rfl, hf47, hb⟩ := fixRaw_of hres
      have hv47 := hf47.v
      have HV47_1 := Lib.hid hv47
      have F47_1 := Lib.hid hf47
      refine hK.out _ _ ?_ (fun hHeld2 => ?_)
      · exact ⟨hHeld.1.only (Only.of_below hb Nob) (fun h => h), hHeld.2.trans (hb.mono hHeld.2.size)⟩
      clear hK K hHeld
      have hHeld := hHeld2; clear hHeld2
      try simp only [Act.put, List.setIfInBounds_toArray, List.set_cons_zero, List.set_cons_succ]
      clear hb hres hv47 hf47
      clear hsz
      refine wpAnyH_ready (rs := [3, 4, 5]) (by kernel_rfl) (by simp) ?_
      refine (AllReadyH.cons (o := ⟨some 27, _, _, _, _, _⟩) rfl (fun K hK => ?_) (AllReadyH.cons (o := ⟨some 11, _, _, _, _, _⟩) rfl (fun K hK => ?_) (AllReadyH.cons (o := ⟨some 12, _, _, _, _, _⟩) rfl (fun K hK => ?_) AllReadyH.nil)))
      · go_simp
        have hsz := hHeld.2.size
        refine (CD.out _).mono ?_
        rintro e x2 hres
        obtain ⟨C50, rfl, hf50, hb⟩ := dynRaw_of hres
        have hv50 := hf50.v
        have HV50_2 := Lib.hid hv50
        have F47_2 := Lib.hid (F47_1.out.below hb)
        have F50_2 := Lib.hid hf50
        refine hK.out _ _ ?_ (fun hHeld2 => ?_)
        · exact ⟨hHeld.1.only (Only.of_below hb Nob) (fun h => h), hHeld.2.trans (hb.mono hHeld.2.size)⟩
        clear hK K hHeld
        have hHeld := hHeld2; clear hHeld2
        try simp only [Act.put, List.setIfInBounds_toArray, List.set_cons_zero, List.set_cons_succ]
        clear hb hres hv50 hf50
        clear hsz
        refine wpAnyH_ready (rs := [4, 5]) (by kernel_rfl) (by simp) ?_
        refine (AllReadyH.cons (o := ⟨some 11, _, _, _, _, _⟩) rfl (fun K hK => ?_) (AllReadyH.cons (o := ⟨some 12, _, _, _, _, _⟩) rfl (fun K hK => ?_) AllReadyH.nil))
        · go_simp
          have hsz := hHeld.2.size
          have NW := Whole.new x2 65 Tryz.zeroCells65
          have hb : Below x2.heap.size x2 (x2.alloc (.cells Tryz.zeroCells65 65)) := (Below.refl _ _).alloc (Nat.le_refl _) _
          have F47_3 := Lib.hid (F47_2.out.below hb)
          have F50_3 := Lib.hid (F50_2.out.below hb)
          have A_3 := Lib.hid NW
          clear NW
          refine hK.out _ _ ?_ (fun hHeld2 => ?_)
          · exact ⟨hHeld.1.only (Only.of_below hb Nob) (fun h => h), hHeld.2.trans (hb.mono hHeld.2.size)⟩
          clear hK K hHeld
          have hHeld := hHeld2; clear hHeld2
          try simp only [Act.put, List.setIfInBounds_toArray, List.set_cons_zero, List.set_cons_succ]
          clear hb
          generalize x2.alloc (.cells Tryz.zeroCells65 65) = x3 at *
          obtain ⟨ga, hga⟩ : ∃ g, x2.heap.size = g := ⟨_, rfl⟩
          rw [hga] at A_3 hsz ⊢
          have hszga := hsz
          clear hga
          clear hsz
          refine wpAnyH_ready (rs := [5]) (by kernel_rfl) (by simp) ?_
          refine (AllReadyH.cons (o := ⟨some 12, _, _, _, _, _⟩) rfl (fun K hK => ?_) AllReadyH.nil)
          · go_simp
            have hsz := hHeld.2.size
            have NW := Whole.new x3 65 Tryz.zeroCells65
            have hb : Below x3.heap.size x3 (x3.alloc (.cells Tryz.zeroCells65 65)) := (Below.refl _ _).alloc (Nat.le_refl _) _
            have F47_4 := Lib.hid (F47_3.out.below hb)
            have F50_4 := Lib.hid (F50_3.out.below hb)
            have A_4 := Lib.hid (A_3.out.only (Only.of_below hb Nob) (fun h => h))
            have hlt4 := A_3.out.lt
            have B_4 := Lib.hid NW
            clear NW
            refine hK.out _ _ ?_ (fun hHeld2 => ?_)
            · exact ⟨hHeld.1.only (Only.of_below hb Nob) (fun h => h), hHeld.2.trans (hb.mono hHeld.2.size)⟩
            clear hK K hHeld
            have hHeld := hHeld2; clear hHeld2
            try simp only [Act.put, List.setIfInBounds_toArray, List.set_cons_zero, List.set_cons_succ]
            clear hb
            generalize x3.alloc (.cells Tryz.zeroCells65 65) = x4 at *
            obtain ⟨gb, hgb⟩ : ∃ g, x3.heap.size = g := ⟨_, rfl⟩
            rw [hgb] at B_4 hsz ⊢
            have hszgb := hsz
            have hne : ga ≠ gb := by omega
            clear hgb
            clear hsz
            have hna : ga ≠ g9 := A_4.out.ne hHeld.1 (by decide)
            have hnb : gb ≠ g9 := B_4.out.ne hHeld.1 (by decide)
            refine wpAnyH_ready (rs := [6]) (by kernel_rfl) (by simp) ?_
            refine AllReadyH.cons (o := ⟨none, _, _, _, _, _⟩) rfl (fun K hK => ?_) AllReadyH.nil
            refine step_store_row _ rfl 65 (.tmp 11) (.tmp 25) rfl ga C47 rfl rfl 65 Tryz.zeroCells65 A_4.out HV47_1.out.2.2 (by rw [hzs.out, HV47_1.out.1]) HV47_1.out.2.1 ?_
            refine hK.out _ _ ?_ (fun hHeld2 => ?_)
            · exact ⟨hHeld.1.setRow_far _ (Ne.symm hna), below_setRow hHeld.2 _ hszga⟩
            clear hK K hHeld
            have hHeld := hHeld2; clear hHeld2
            try simp only [Act.put, List.setIfInBounds_toArray, List.set_cons_zero, List.set_cons_succ]
            have A1 := Lib.hid (A_4.out.setRow C47)
            have B1 := Lib.hid (Whole.setRow_far B_4.out C47 (Ne.symm hne))
            have F1 := Lib.hid (F47_4.out.blk A_4.out (only_setRow _ _ C47)); have G1 := Lib.hid (F50_4.out.blk A_4.out (only_setRow _ _ C47))
            refine wpAnyH_ready (rs := [7]) (by kernel_rfl) (by simp) ?_
            refine AllReadyH.cons (o := ⟨none, _, _, _, _, _⟩) rfl (fun K hK => ?_) AllReadyH.nil
            refine step_store_row _ rfl 65 (.tmp 12) (.tmp 27) rfl gb C50 rfl rfl 65 Tryz.zeroCells65 B1.out HV50_2.out.2.2 (by rw [hzs.out, HV50_2.out.1]) HV50_2.out.2.1 ?_
            refine hK.out _ _ ?_ (fun hHeld2 => ?_)
            · exact ⟨hHeld.1.setRow_far _ (Ne.symm hnb), below_setRow hHeld.2 _ hszgb⟩
            clear hK K hHeld
            have hHeld := hHeld2; clear hHeld2
            try simp only [Act.put, List.setIfInBounds_toArray, List.set_cons_zero, List.set_cons_succ]
            have A2 := Lib.hid (Whole.setRow_far A1.out C50 hne)
            have B2 := Lib.hid (B1.out.setRow C50)
            have F2 := Lib.hid (F1.out.blk B1.out (only_setRow _ _ C50)); have G2 := Lib.hid (G1.out.blk B1.out (only_setRow _ _ C50))
            refine wpAnyH_done (by kernel_rfl) ?_ _
            go_wp2_with fail
            go_meet
            case rel => exact ⟨ga, gb, C47, C50, rfl, rfl, hne, Lib.hid ⟨A2.out, B2.out, F2.out, G2.out, BEL.out.trans (hHeld.2.mono BEL.out.size), Nat.le_trans BEL.out.size hszga, Nat.le_trans BEL.out.size hszgb⟩⟩
        · go_simp
          have hsz := hHeld.2.size
          have NW := Whole.new x2 65 Tryz.zeroCells65
          have hb : Below x2.heap.size x2 (x2.alloc (.cells Tryz.zeroCells65 65)) := (Below.refl _ _).alloc (Nat.le_refl _) _
          have F47_5 := Lib.hid (F47_2.out.below hb)
          have F50_5 := Lib.hid (F50_2.out.below hb)
          have B_5 := Lib.hid NW
          clear NW
          refine hK.out _ _ ?_ (fun hHeld2 => ?_)
          · exact ⟨hHeld.1.only (Only.of_below hb Nob) (fun h => h), hHeld.2.trans (hb.mono hHeld.2.size)⟩
          clear hK K hHeld
          have hHeld := hHeld2; clear hHeld2
          try simp only [Act.put, List.setIfInBounds_toArray, List.set_cons_zero, List.set_cons_succ]
          clear hb
          generalize x2.alloc (.cells Tryz.zeroCells65 65) = x5 at *
          obtain ⟨gb, hgb⟩ : ∃ g, x2.heap.size = g := ⟨_, rfl⟩
          rw [hgb] at B_5 hsz ⊢
          have hszgb := hsz
          clear hgb
          clear hsz
          refine wpAnyH_ready (rs := [4]) (by kernel_rfl) (by simp) ?_
          refine (AllReadyH.cons (o := ⟨some 11, _, _, _, _, _⟩) rfl (fun K hK => ?_) AllReadyH.nil)
          · go_simp
            have hsz := hHeld.2.size
            have NW := Whole.new x5 65 Tryz.zeroCells65
            have hb : Below x5.heap.size x5 (x5.alloc (.cells Tryz.zeroCells65 65)) := (Below.refl _ _).alloc (Nat.le_refl _) _
            have F47_6 := Lib.hid (F47_5.out.below hb)
            have F50_6 := Lib.hid (F50_5.out.below hb)
            have B_6 := Lib.hid (B_5.out.only (Only.of_below hb Nob) (fun h => h))
            have hlt6 := B_5.out.lt
            have A_6 := Lib.hid NW
            clear NW
            refine hK.out _ _ ?_ (fun hHeld2 => ?_)
            · exact ⟨hHeld.1.only (Only.of_below hb Nob) (fun h => h), hHeld.2.trans (hb.mono hHeld.2.size)⟩
            clear hK K hHeld
            have hHeld := hHeld2; clear hHeld2
            try simp only [Act.put, List.setIfInBounds_toArray, List.set_cons_zero, List.set_cons_succ]
            clear hb
            generalize x5.alloc (.cells Tryz.zeroCells65 65) = x6 at *
            obtain ⟨ga, hga⟩ : ∃ g, x5.heap.size = g := ⟨_, rfl⟩
            rw [hga] at A_6 hsz ⊢
            have hszga := hsz
            have hne : ga ≠ gb := by omega
            clear hga
            clear hsz
            have hna : ga ≠ g9 := A_6.out.ne hHeld.1 (by decide)
            have hnb : gb ≠ g9 := B_6.out.ne hHeld.1 (by decide)
            refine wpAnyH_ready (rs := [6]) (by kernel_rfl) (by simp) ?_
            refine AllReadyH.cons (o := ⟨none, _, _, _, _, _⟩) rfl (fun K hK => ?_) AllReadyH.nil
            refine step_store_row _ rfl 65 (.tmp 11) (.tmp 25) rfl ga C47 rfl rfl 65 Tryz.zeroCells65 A_6.out HV47_1.out.2.2 (by rw [hzs.out, HV47_1.out.1]) HV47_1.out.2.1 ?_
            refine hK.out _ _ ?_ (fun hHeld2 => ?_)
            · exact ⟨hHeld.1.setRow_far _ (Ne.symm hna), below_setRow hHeld.2 _ hszga⟩
            clear hK K hHeld
            have hHeld := hHeld2; clear hHeld2
            try simp only [Act.put, List.setIfInBounds_toArray, List.set_cons_zero, List.set_cons_succ]
            have A1 := Lib.hid (A_6.out.setRow C47)
            have B1 := Lib.hid (Whole.setRow_far B_6.out C47 (Ne.symm hne))
            have F1 := Lib.hid (F47_6.out.blk A_6.out (only_setRow _ _ C47)); have G1 := Lib.hid (F50_6.out.blk A_6.out (only_setRow _ _ C47))
            refine wpAnyH_ready (rs := [7]) (by kernel_rfl) (by simp) ?_
            refine AllReadyH.cons (o := ⟨none, _, _, _, _, _⟩) rfl (fun K hK => ?_) AllReadyH.nil
            refine step_store_row _ rfl 65 (.tmp 12) (.tmp 27) rfl gb C50 rfl rfl 65 Tryz.zeroCells65 B1.out HV50_2.out.2.2 (by rw [hzs.out, HV50_2.out.1]) HV50_2.out.2.1 ?_
            refine hK.out _ _ ?_ (fun hHeld2 => ?_)
            · exact ⟨hHeld.1.setRow_far _ (Ne.symm hnb), below_setRow hHeld.2 _ hszgb⟩
            clear hK K hHeld
            have hHeld := hHeld2; clear hHeld2
            try simp only [Act.put, List.setIfInBounds_toArray, List.set_cons_zero, List.set_cons_succ]
            have A2 := Lib.hid (Whole.setRow_far A1.out C50 hne)
            have B2 := Lib.hid (B1.out.setRow C50)
            have F2 := Lib.hid (F1.out.blk B1.out (only_setRow _ _ C50)); have G2 := Lib.hid (G1.out.blk B1.out (only_setRow _ _ C50))
            refine wpAnyH_done (by kernel_rfl) ?_ _
            go_wp2_with fail
            go_meet
            case rel => exact ⟨ga, gb, C47, C50, rfl, rfl, hne, Lib.hid ⟨A2.out, B2.out, F2.out, G2.out, BEL.out.trans (hHeld.2.mono BEL.out.size), Nat.le_trans BEL.out.size hszga, Nat.le_trans BEL.out.size hszgb⟩⟩
      · go_simp
        have hsz := hHeld.2.size
        have NW := Whole.new x1 65 Tryz.zeroCells65
        have hb : Below x1.heap.size x1 (x1.alloc (.cells Tryz.zeroCells65 65)) := (Below.refl _ _).alloc (Nat.le_refl _) _
        have F47_7 := Lib.hid (F47_1.out.below hb)
        have A_7 := Lib.hid NW
        clear NW
        refine hK.out _ _ ?_ (fun hHeld2 => ?_)
        · exact ⟨hHeld.1.only (Only.of_below hb Nob) (fun h => h), hHeld.2.trans (hb.mono hHeld.2.size)⟩
        clear hK K hHeld
        have hHeld := hHeld2; clear hHeld2
        try simp only [Act.put, List.setIfInBounds_toArray, List.set_cons_zero, List.set_cons_succ]
        clear hb
        generalize x1.alloc (.cells Tryz.zeroCells65 65) = x7 at *
        obtain ⟨ga, hga⟩ : ∃ g, x1.heap.size = g := ⟨_, rfl⟩
        rw [hga] at A_7 hsz ⊢
        have hszga := hsz
        clear hga
        clear hsz
        refine wpAnyH_ready (rs := [3, 5]) (by kernel_rfl) (by simp) ?_
        refine (AllReadyH.cons (o := ⟨some 27, _, _, _, _, _⟩) rfl (fun K hK => ?_) (AllReadyH.cons (o := ⟨some 12, _, _, _, _, _⟩) rfl (fun K hK => ?_) AllReadyH.nil))
        · go_simp
          have hsz := hHeld.2.size
          refine (CD.out _).mono ?_
          rintro e x8 hres
          obtain ⟨C50, rfl, hf50, hb⟩ := dynRaw_of hres
          have hv50 := hf50.v
          have HV50_8 := Lib.hid hv50
          have F47_8 := Lib.hid (F47_7.out.below hb)
          have A_8 := Lib.hid (A_7.out.only (Only.of_below hb Nob) (fun h => h))
          have F50_8 := Lib.hid hf50
          refine hK.out _ _ ?_ (fun hHeld2 => ?_)
          · exact ⟨hHeld.1.only (Only.of_below hb Nob) (fun h => h), hHeld.2.trans (hb.mono hHeld.2.size)⟩
          clear hK K hHeld
          have hHeld := hHeld2; clear hHeld2
          try simp only [Act.put, List.setIfInBounds_toArray, List.set_cons_zero, List.set_cons_succ]
          clear hb hres hv50 hf50
          clear hsz
          refine wpAnyH_ready (rs := [5]) (by kernel_rfl) (by simp) ?_
          refine (AllReadyH.cons (o := ⟨some 12, _, _, _, _, _⟩) rfl (fun K hK => ?_) AllReadyH.nil)
          · go_simp
            have hsz := hHeld.2.size
            have NW := Whole.new x8 65 Tryz.zeroCells65
            have hb : Below x8.heap.size x8 (x8.alloc (.cells Tryz.zeroCells65 65)) := (Below.refl _ _).alloc (Nat.le_refl _) _
            have F47_9 := Lib.hid (F47_8.out.below hb)
            have F50_9 := Lib.hid (F50_8.out.below hb)
            have A_9 := Lib.hid (A_8.out.only (Only.of_below hb Nob) (fun h => h))
            have hlt9 := A_8.out.lt
            have B_9 := Lib.hid NW
            clear NW
            refine hK.out _ _ ?_ (fun hHeld2 => ?_)
            · exact ⟨hHeld.1.only (Only.of_below hb Nob) (fun h => h), hHeld.2.trans (hb.mono hHeld.2.size)⟩
            clear hK K hHeld
            have hHeld := hHeld2; clear hHeld2
            try simp only [Act.put, List.setIfInBounds_toArray, List.set_cons_zero, List.set_cons_succ]
            clear hb
            generalize x8.alloc (.cells Tryz.zeroCells65 65) = x9 at *
            obtain ⟨gb, hgb⟩ : ∃ g, x8.heap.size = g := ⟨_, rfl⟩
            rw [hgb] at B_9 hsz ⊢
            have hszgb := hsz
            have hne : ga ≠ gb := by omega
            clear hgb
            clear hsz
            have hna : ga ≠ g9 := A_9.out.ne hHeld.1 (by decide)
            have hnb : gb ≠ g9 := B_9.out.ne hHeld.1 (by decide)
            refine wpAnyH_ready (rs := [6]) (by kernel_rfl) (by simp) ?_
            refine AllReadyH.cons (o := ⟨none, _, _, _, _, _⟩) rfl (fun K hK => ?_) AllReadyH.nil
            refine step_store_row _ rfl 65 (.tmp 11) (.tmp 25) rfl ga C47 rfl rfl 65 Tryz.zeroCells65 A_9.out HV47_1.out.2.2 (by rw [hzs.out, HV47_1.out.1]) HV47_1.out.2.1 ?_
            refine hK.out _ _ ?_ (fun hHeld2 => ?_)
            · exact ⟨hHeld.1.setRow_far _ (Ne.symm hna), below_setRow hHeld.2 _ hszga⟩
            clear hK K hHeld
            have hHeld := hHeld2; clear hHeld2
            try simp only [Act.put, List.setIfInBounds_toArray, List.set_cons_zero, List.set_cons_succ]
            have A1 := Lib.hid (A_9.out.setRow C47)
            have B1 := Lib.hid (Whole.setRow_far B_9.out C47 (Ne.symm hne))
            have F1 := Lib.hid (F47_9.out.blk A_9.out (only_setRow _ _ C47)); have G1 := Lib.hid (F50_9.out.blk A_9.out (only_setRow _ _ C47))
            refine wpAnyH_ready (rs := [7]) (by kernel_rfl) (by simp) ?_
            refine AllReadyH.cons (o := ⟨none, _, _, _, _, _⟩) rfl (fun K hK => ?_) AllReadyH.nil
            refine step_store_row _ rfl 65 (.tmp 12) (.tmp 27) rfl gb C50 rfl rfl 65 Tryz.zeroCells65 B1.out HV50_8.out.2.2 (by rw [hzs.out, HV50_8.out.1]) HV50_8.out.2.1 ?_
            refine hK.out _ _ ?_ (fun hHeld2 => ?_)
            · exact ⟨hHeld.1.setRow_far _ (Ne.symm hnb), below_setRow hHeld.2 _ hszgb⟩
            clear hK K hHeld
            have hHeld := hHeld2; clear hHeld2
            try simp only [Act.put, List.setIfInBounds_toArray, List.set_cons_zero, List.set_cons_succ]
            have A2 := Lib.hid (Whole.setRow_far A1.out C50 hne)
            have B2 := Lib.hid (B1.out.setRow C50)
            have F2 := Lib.hid (F1.out.blk B1.out (only_setRow _ _ C50)); have G2 := Lib.hid (G1.out.blk B1.out (only_setRow _ _ C50))
            refine wpAnyH_done (by kernel_rfl) ?_ _
            go_wp2_with fail
            go_meet
            case rel => exact ⟨ga, gb, C47, C50, rfl, rfl, hne, Lib.hid ⟨A2.out, B2.out, F2.out, G2.out, BEL.out.trans (hHeld.2.mono BEL.out.size), Nat.le_trans BEL.out.size hszga, Nat.le_trans BEL.out.size hszgb⟩⟩
        · go_simp
          have hsz := hHeld.2.size
          have NW := Whole.new x7 65 Tryz.zeroCells65
          have hb : Below x7.heap.size x7 (x7.alloc (.cells Tryz.zeroCells65 65)) := (Below.refl _ _).alloc (Nat.le_refl _) _
          have F47_10 := Lib.hid (F47_7.out.below hb)
          have A_10 := Lib.hid (A_7.out.only (Only.of_below hb Nob) (fun h => h))
          have hlt10 := A_7.out.lt
          have B_10 := Lib.hid NW
          clear NW
          refine hK.out _ _ ?_ (fun hHeld2 => ?_)
          · exact ⟨hHeld.1.only (Only.of_below hb Nob) (fun h => h), hHeld.2.trans (hb.mono hHeld.2.size)⟩
          clear hK K hHeld
          have hHeld := hHeld2; clear hHeld2
          try simp only [Act.put, List.setIfInBounds_toArray, List.set_cons_zero, List.set_cons_succ]
          clear hb
          generalize x7.alloc (.cells Tryz.zeroCells65 65) = x10 at *
          obtain ⟨gb, hgb⟩ : ∃ g, x7.heap.size = g := ⟨_, rfl⟩
          rw [hgb] at B_10 hsz ⊢
          have hszgb := hsz
          have hne : ga ≠ gb := by omega
          clear hgb
          clear hsz
          refine wpAnyH_ready (rs := [3]) (by kernel_rfl) (by simp) ?_
          refine (AllReadyH.cons (o := ⟨some 27, _, _, _, _, _⟩) rfl (fun K hK => ?_) AllReadyH.nil)
          · go_simp
            have hsz := hHeld.2.size
            refine (CD.out _).mono ?_
            rintro e x11 hres
            obtain ⟨C50, rfl, hf50, hb⟩ := dynRaw_of hres
            have hv50 := hf50.v
            have HV50_11 := Lib.hid hv50
            have F47_11 := Lib.hid (F47_10.out.below hb)
            have A_11 := Lib.hid (A_10.out.only (Only.of_below hb Nob) (fun h => h))
            have B_11 := Lib.hid (B_10.out.only (Only.of_below hb Nob) (fun h => h))
            have F50_11 := Lib.hid hf50
            refine hK.out _ _ ?_ (fun hHeld2 => ?_)
            · exact ⟨hHeld.1.only (Only.of_below hb Nob) (fun h => h), hHeld.2.trans (hb.mono hHeld.2.size)⟩
            clear hK K hHeld
            have hHeld := hHeld2; clear hHeld2
            try simp only [Act.put, List.setIfInBounds_toArray, List.set_cons_zero, List.set_cons_succ]
            clear hb hres hv50 hf50
            clear hsz
            have hna : ga ≠ g9 := A_11.out.ne hHeld.1 (by decide)
            have hnb : gb ≠ g9 := B_11.out.ne hHeld.1 (by decide)
            refine wpAnyH_ready (rs := [6]) (by kernel_rfl) (by simp) ?_
            refine AllReadyH.cons (o := ⟨none, _, _, _, _, _⟩) rfl (fun K hK => ?_) AllReadyH.nil
            refine step_store_row _ rfl 65 (.tmp 11) (.tmp 25) rfl ga C47 rfl rfl 65 Tryz.zeroCells65 A_11.out HV47_1.out.2.2 (by rw [hzs.out, HV47_1.out.1]) HV47_1.out.2.1 ?_
            refine hK.out _ _ ?_ (fun hHeld2 => ?_)
            · exact ⟨hHeld.1.setRow_far _ (Ne.symm hna), below_setRow hHeld.2 _ hszga⟩
            clear hK K hHeld
            have hHeld := hHeld2; clear hHeld2
            try simp only [Act.put, List.setIfInBounds_toArray, List.set_cons_zero, List.set_cons_succ]
            have A1 := Lib.hid (A_11.out.setRow C47)
            have B1 := Lib.hid (Whole.setRow_far B_11.out C47 (Ne.symm hne))
            have F1 := Lib.hid (F47_11.out.blk A_11.out (only_setRow _ _ C47)); have G1 := Lib.hid (F50_11.out.blk A_11.out (only_setRow _ _ C47))
            refine wpAnyH_ready (rs := [7]) (by kernel_rfl) (by simp) ?_
            refine AllReadyH.cons (o := ⟨none, _, _, _, _, _⟩) rfl (fun K hK => ?_) AllReadyH.nil
            refine step_store_row _ rfl 65 (.tmp 12) (.tmp 27) rfl gb C50 rfl rfl 65 Tryz.zeroCells65 B1.out HV50_11.out.2.2 (by rw [hzs.out, HV50_11.out.1]) HV50_11.out.2.1 ?_
            refine hK.out _ _ ?_ (fun hHeld2 => ?_)
            · exact ⟨hHeld.1.setRow_far _ (Ne.symm hnb), below_setRow hHeld.2 _ hszgb⟩
            clear hK K hHeld
            have hHeld := hHeld2; clear hHeld2
            try simp only [Act.put, List.setIfInBounds_toArray, List.set_cons_zero, List.set_cons_succ]
            have A2 := Lib.hid (Whole.setRow_far A1.out C50 hne)
            have B2 := Lib.hid (B1.out.setRow C50)
            have F2 := Lib.hid (F1.out.blk B1.out (only_setRow _ _ C50)); have G2 := Lib.hid (G1.out.blk B1.out (only_setRow _ _ C50))
            refine wpAnyH_done (by kernel_rfl) ?_ _
            go_wp2_with fail
            go_meet
            case rel => exact ⟨ga, gb, C47, C50, rfl, rfl, hne, Lib.hid ⟨A2.out, B2.out, F2.out, G2.out, BEL.out.trans (hHeld.2.mono BEL.out.size), Nat.le_trans BEL.out.size hszga, Nat.le_trans BEL.out.size hszgb⟩⟩
      · go_simp
        have hsz := hHeld.2.size
        have NW := Whole.new x1 65 Tryz.zeroCells65
        have hb : Below x1.heap.size x1 (x1.alloc (.cells Tryz.zeroCells65 65)) := (Below.refl _ _).alloc (Nat.le_refl _) _
        have F47_12 := Lib.hid (F47_1.out.below hb)
        have B_12 := Lib.hid NW
        clear NW
        refine hK.out _ _ ?_ (fun hHeld2 => ?_)
        · exact ⟨hHeld.1.only (Only.of_below hb Nob) (fun h => h), hHeld.2.trans (hb.mono hHeld.2.size)⟩
        clear hK K hHeld
        have hHeld := hHeld2; clear hHeld2
        try simp only [Act.put, List.setIfInBounds_toArray, List.set_cons_zero, List.set_cons_succ]
        clear hb
        generalize x1.alloc (.cells Tryz.zeroCells65 65) = x12 at *
        obtain ⟨gb, hgb⟩ : ∃ g, x1.heap.size = g := ⟨_, rfl⟩
        rw [hgb] at B_12 hsz ⊢
        have hszgb := hsz
        clear hgb
        clear hsz
        refine wpAnyH_ready (rs := [3, 4]) (by kernel_rfl) (by simp) ?_
        refine (AllReadyH.cons (o := ⟨some 27, _, _, _, _, _⟩) rfl (fun K hK => ?_) (AllReadyH.cons (o := ⟨some 11, _, _, _, _, _⟩) rfl (fun K hK => ?_) AllReadyH.nil))
        · go_simp
          have hsz := hHeld.2.size
          refine (CD.out _).mono ?_
          rintro e x13 hres
          obtain ⟨C50, rfl, hf50, hb⟩ := dynRaw_of hres
          have hv50 := hf50.v
          have HV50_13 := Lib.hid hv50
          have F47_13 := Lib.hid (F47_12.out.below hb)
          have B_13 := Lib.hid (B_12.out.only (Only.of_below hb Nob) (fun h => h))
          have F50_13 := Lib.hid hf50
          refine hK.out _ _ ?_ (fun hHeld2 => ?_)
          · exact ⟨hHeld.1.only (Only.of_below hb Nob) (fun h => h), hHeld.2.trans (hb.mono hHeld.2.size)⟩
          clear hK K hHeld
          have hHeld := hHeld2; clear hHeld2
          try simp only [Act.put, List.setIfInBounds_toArray, List.set_cons_zero, List.set_cons_succ]
          clear hb hres hv50 hf50
          clear hsz
          refine wpAnyH_ready (rs := [4]) (by kernel_rfl) (by simp) ?_
          refine (AllReadyH.cons (o := ⟨some 11, _, _, _, _, _⟩) rfl (fun K hK => ?_) AllReadyH.nil)
          · go_simp
            have hsz := hHeld.2.size
            have NW := Whole.new x13 65 Tryz.zeroCells65
            have hb : Below x13.heap.size x13 (x13.alloc (.cells Tryz.zeroCells65 65)) := (Below.refl _ _).alloc (Nat.le_refl _) _
            have F47_14 := Lib.hid (F47_13.out.below hb)
            have F50_14 := Lib.hid (F50_13.out.below hb)
            have B_14 := Lib.hid (B_13.out.only (Only.of_below hb Nob) (fun h => h))
            have hlt14 := B_13.out.lt
            have A_14 := Lib.hid NW
            clear NW
            refine hK.out _ _ ?_ (fun hHeld2 => ?_)
            · exact ⟨hHeld.1.only (Only.of_below hb Nob) (fun h => h), hHeld.2.trans (hb.mono hHeld.2.size)⟩
            clear hK K hHeld
            have hHeld := hHeld2; clear hHeld2
            try simp only [Act.put, List.setIfInBounds_toArray, List.set_cons_zero, List.set_cons_succ]
            clear hb
            generalize x13.alloc (.cells Tryz.zeroCells65 65) = x14 at *
            obtain ⟨ga, hga⟩ : ∃ g, x13.heap.size = g := ⟨_, rfl⟩
            rw [hga] at A_14 hsz ⊢
            have hszga := hsz
            have hne : ga ≠ gb := by omega
            clear hga
            clear hsz
            have hna : ga ≠ g9 := A_14.out.ne hHeld.1 (by decide)
            have hnb : gb ≠ g9 := B_14.out.ne hHeld.1 (by decide)
            refine wpAnyH_ready (rs := [6]) (by kernel_rfl) (by simp) ?_
            refine AllReadyH.cons (o := ⟨none, _, _, _, _, _⟩) rfl (fun K hK => ?_) AllReadyH.nil
            refine step_store_row _ rfl 65 (.tmp 11) (.tmp 25) rfl ga C47 rfl rfl 65 Tryz.zeroCells65 A_14.out HV47_1.out.2.2 (by rw [hzs.out, HV47_1.out.1]) HV47_1.out.2.1 ?_
            refine hK.out _ _ ?_ (fun hHeld2 => ?_)
            · exact ⟨hHeld.1.setRow_far _ (Ne.symm hna), below_setRow hHeld.2 _ hszga⟩
            clear hK K hHeld
            have hHeld := hHeld2; clear hHeld2
            try simp only [Act.put, List.setIfInBounds_toArray, List.set_cons_zero, List.set_cons_succ]
            have A1 := Lib.hid (A_14.out.setRow C47)
            have B1 := Lib.hid (Whole.setRow_far B_14.out C47 (Ne.symm hne))
            have F1 := Lib.hid (F47_14.out.blk A_14.out (only_setRow _ _ C47)); have G1 := Lib.hid (F50_14.out.blk A_14.out (only_setRow _ _ C47))
            refine wpAnyH_ready (rs := [7]) (by kernel_rfl) (by simp) ?_
            refine AllReadyH.cons (o := ⟨none, _, _, _, _, _⟩) rfl (fun K hK => ?_) AllReadyH.nil
            refine step_store_row _ rfl 65 (.tmp 12) (.tmp 27) rfl gb C50 rfl rfl 65 Tryz.zeroCells65 B1.out HV50_13.out.2.2 (by rw [hzs.out, HV50_13.out.1]) HV50_13.out.2.1 ?_
            refine hK.out _ _ ?_ (fun hHeld2 => ?_)
            · exact ⟨hHeld.1.setRow_far _ (Ne.symm hnb), below_setRow hHeld.2 _ hszgb⟩
            clear hK K hHeld
            have hHeld := hHeld2; clear hHeld2
            try simp only [Act.put, List.setIfInBounds_toArray, List.set_cons_zero, List.set_cons_succ]
            have A2 := Lib.hid (Whole.setRow_far A1.out C50 hne)
            have B2 := Lib.hid (B1.out.setRow C50)
            have F2 := Lib.hid (F1.out.blk B1.out (only_setRow _ _ C50)); have G2 := Lib.hid (G1.out.blk B1.out (only_setRow _ _ C50))
            refine wpAnyH_done (by kernel_rfl) ?_ _
            go_wp2_with fail
            go_meet
            case rel => exact ⟨ga, gb, C47, C50, rfl, rfl, hne, Lib.hid ⟨A2.out, B2.out, F2.out, G2.out, BEL.out.trans (hHeld.2.mono BEL.out.size), Nat.le_trans BEL.out.size hszga, Nat.le_trans BEL.out.size hszgb⟩⟩
        · go_simp
          have hsz := hHeld.2.size
          have NW := Whole.new x12 65 Tryz.zeroCells65
          have hb : Below x12.heap.size x12 (x12.alloc (.cells Tryz.zeroCells65 65)) := (Below.refl _ _).alloc (Nat.le_refl _) _
          have F47_15 := Lib.hid (F47_12.out.below hb)
          have B_15 := Lib.hid (B_12.out.only (Only.of_below hb Nob) (fun h => h))
          have hlt15 := B_12.out.lt
          have A_15 := Lib.hid NW
          clear NW
          refine hK.out _ _ ?_ (fun hHeld2 => ?_)
          · exact ⟨hHeld.1.only (Only.of_below hb Nob) (fun h => h), hHeld.2.trans (hb.mono hHeld.2.size)⟩
          clear hK K hHeld
          have hHeld := hHeld2; clear hHeld2
          try simp only [Act.put, List.setIfInBounds_toArray, List.set_cons_zero, List.set_cons_succ]
          clear hb
          generalize x12.alloc (.cells Tryz.zeroCells65 65) = x15 at *
          obtain ⟨ga, hga⟩ : ∃ g, x12.heap.size = g := ⟨_, rfl⟩
          rw [hga] at A_15 hsz ⊢
          have hszga := hsz
          have hne : ga ≠ gb := by omega
          clear hga
          clear hsz
          refine wpAnyH_ready (rs := [3]) (by kernel_rfl) (by simp) ?_
          refine (AllReadyH.cons (o := ⟨some 27, _, _, _, _, _⟩) rfl (fun K hK => ?_) AllReadyH.nil)
          · go_simp
            have hsz := hHeld.2.size
            refine (CD.out _).mono ?_
            rintro e x16 hres
            obtain ⟨C50, rfl, hf50, hb⟩ := dynRaw_of hres
            have hv50 := hf50.v
            have HV50_16 := Lib.hid hv50
            have F47_16 := Lib.hid (F47_15.out.below hb)
            have A_16 := Lib.hid (A_15.out.only (Only.of_below hb Nob) (fun h => h))
            have B_16 := Lib.hid (B_15.out.only (Only.of_below hb Nob) (fun h => h))
            have F50_16 := Lib.hid hf50
            refine hK.out _ _ ?_ (fun hHeld2 => ?_)
            · exact ⟨hHeld.1.only (Only.of_below hb Nob) (fun h => h), hHeld.2.trans (hb.mono hHeld.2.size)⟩
            clear hK K hHeld
            have hHeld := hHeld2; clear hHeld2
            try simp only [Act.put, List.setIfInBounds_toArray, List.set_cons_zero, List.set_cons_succ]
            clear hb hres hv50 hf50
            clear hsz
            have hna : ga ≠ g9 := A_16.out.ne hHeld.1 (by decide)
            have hnb : gb ≠ g9 := B_16.out.ne hHeld.1 (by decide)
            refine wpAnyH_ready (rs := [6]) (by kernel_rfl) (by simp) ?_
            refine AllReadyH.cons (o := ⟨none, _, _, _, _, _⟩) rfl (fun K hK => ?_) AllReadyH.nil
            refine step_store_row _ rfl 65 (.tmp 11) (.tmp 25) rfl ga C47 rfl rfl 65 Tryz.zeroCells65 A_16.out HV47_1.out.2.2 (by rw [hzs.out, HV47_1.out.1]) HV47_1.out.2.1 ?_
            refine hK.out _ _ ?_ (fun hHeld2 => ?_)
            · exact ⟨hHeld.1.setRow_far _ (Ne.symm hna), below_setRow hHeld.2 _ hszga⟩
            clear hK K hHeld
            have hHeld := hHeld2; clear hHeld2
            try simp only [Act.put, List.setIfInBounds_toArray, List.set_cons_zero, List.set_cons_succ]
            have A1 := Lib.hid (A_16.out.setRow C47)
            have B1 := Lib.hid (Whole.setRow_far B_16.out C47 (Ne.symm hne))
            have F1 := Lib.hid (F47_16.out.blk A_16.out (only_setRow _ _ C47)); have G1 := Lib.hid (F50_16.out.blk A_16.out (only_setRow _ _ C47))
            refine wpAnyH_ready (rs := [7]) (by kernel_rfl) (by simp) ?_
            refine AllReadyH.cons (o := ⟨none, _, _, _, _, _⟩) rfl (fun K hK => ?_) AllReadyH.nil
            refine step_store_row _ rfl 65 (.tmp 12) (.tmp 27) rfl gb C50 rfl rfl 65 Tryz.zeroCells65 B1.out HV50_16.out.2.2 (by rw [hzs.out, HV50_16.out.1]) HV50_16.out.2.1 ?_
            refine hK.out _ _ ?_ (fun hHeld2 => ?_)
            · exact ⟨hHeld.1.setRow_far _ (Ne.symm hnb), below_setRow hHeld.2 _ hszgb⟩
            clear hK K hHeld
            have hHeld := hHeld2; clear hHeld2
            try simp only [Act.put, List.setIfInBounds_toArray, List.set_cons_zero, List.set_cons_succ]
            have A2 := Lib.hid (Whole.setRow_far A1.out C50 hne)
            have B2 := Lib.hid (B1.out.setRow C50)
            have F2 := Lib.hid (F1.out.blk B1.out (only_setRow _ _ C50)); have G2 := Lib.hid (G1.out.blk B1.out (only_setRow _ _ C50))
            refine wpAnyH_done (by kernel_rfl) ?_ _
            go_wp2_with fail
            go_meet
            case rel => exact ⟨ga, gb, C47, C50, rfl, rfl, hne, Lib.hid ⟨A2.out, B2.out, F2.out, G2.out, BEL.out.trans (hHeld.2.mono BEL.out.size), Nat.le_trans BEL.out.size hszga, Nat.le_trans BEL.out.size hszgb⟩⟩
    · go_simp
      have hsz := hHeld.2.size
      have NW := Whole.new wd 65 Tryz.zeroCells65
      have hb : Below wd.heap.size wd (wd.alloc (.cells Tryz.zeroCells65 65)) := (Below.refl _ _).alloc (Nat.le_refl _) _
      have A_17 := Lib.hid NW
      clear NW
      refine hK.out _ _ ?_ (fun hHeld2 => ?_)
      · exact ⟨hHeld.1.only (Only.of_below hb Nob) (fun h => h), hHeld.2.trans (hb.mono hHeld.2.size)⟩
      clear hK K hHeld
      have hHeld := hHeld2; clear hHeld2
      try simp only [Act.put, List.setIfInBounds_toArray, List.set_cons_zero, List.set_cons_succ]
      clear hb
      generalize wd.alloc (.cells Tryz.zeroCells65 65) = x17 at *
      obtain ⟨ga, hga⟩ : ∃ g, wd.heap.size = g := ⟨_, rfl⟩
      rw [hga] at A_17 hsz ⊢
      have hszga := hsz
      clear hga
      clear hsz
      refine wpAnyH_ready (rs := [1, 5]) (by kernel_rfl) (by simp) ?_
      refine (AllReadyH.cons (o := ⟨some 25, _, _, _, _, _⟩) rfl (fun K hK => ?_) (AllReadyH.cons (o := ⟨some 12, _, _, _, _, _⟩) rfl (fun K hK => ?_) AllReadyH.nil))
      · go_simp
        have hsz := hHeld.2.size
        refine (CF.out _).mono ?_
        rintro e x18 hres
        obtain ⟨C47, rfl, hf47, hb⟩ := fixRaw_of hres
        have hv47 := hf47.v
        have HV47_18 := Lib.hid hv47
        have A_18 := Lib.hid (A_17.out.only (Only.of_below hb Nob) (fun h => h))
        have F47_18 := Lib.hid hf47
        refine hK.out _ _ ?_ (fun hHeld2 => ?_)
        · exact ⟨hHeld.1.only (Only.of_below hb Nob) (fun h => h), hHeld.2.trans (hb.mono hHeld.2.size)⟩
        clear hK K hHeld
        have hHeld := hHeld2; clear hHeld2
        try simp only [Act.put, List.setIfInBounds_toArray, List.set_cons_zero, List.set_cons_succ]
        clear hb hres hv47 hf47
        clear hsz
        refine wpAnyH_ready (rs := [3, 5]) (by kernel_rfl) (by simp) ?_
        refine (AllReadyH.cons (o := ⟨some 27, _, _, _, _, _⟩) rfl (fun K hK => ?_) (AllReadyH.cons (o := ⟨some 12, _, _, _, _, _⟩) rfl (fun K hK => ?_) AllReadyH.nil))
        · go_simp
          have hsz := hHeld.2.size
          refine (CD.out _).mono ?_
          rintro e x19 hres
          obtain ⟨C50, rfl, hf50, hb⟩ := dynRaw_of hres
          have hv50 := hf50.v
          have HV50_19 := Lib.hid hv50
          have F47_19 := Lib.hid (F47_18.out.below hb)
          have A_19 := Lib.hid (A_18.out.only (Only.of_below hb Nob) (fun h => h))
          have F50_19 := Lib.hid hf50
          refine hK.out _ _ ?_ (fun hHeld2 => ?_)
          · exact ⟨hHeld.1.only (Only.of_below hb Nob) (fun h => h), hHeld.2.trans (hb.mono hHeld.2.size)⟩
          clear hK K hHeld
          have hHeld := hHeld2; clear hHeld2
          try simp only [Act.put, List.setIfInBounds_toArray, List.set_cons_zero, List.set_cons_succ]
          clear hb hres hv50 hf50
          clear hsz
          refine wpAnyH_ready (rs := [5]) (by kernel_rfl) (by simp) ?_
          refine (AllReadyH.cons (o := ⟨some 12, _, _, _, _, _⟩) rfl (fun K hK => ?_) AllReadyH.nil)
          · go_simp
            have hsz := hHeld.2.size
            have NW := Whole.new x19 65 Tryz.zeroCells65
            have hb : Below x19.heap.size x19 (x19.alloc (.cells Tryz.zeroCells65 65)) := (Below.refl _ _).alloc (Nat.le_refl _) _
            have F47_20 := Lib.hid (F47_19.out.below hb)
            have F50_20 := Lib.hid (F50_19.out.below hb)
            have A_20 := Lib.hid (A_19.out.only (Only.of_below hb Nob) (fun h => h))
            have hlt20 := A_19.out.lt
            have B_20 := Lib.hid NW
            clear NW
            refine hK.out _ _ ?_ (fun hHeld2 => ?_)
            · exact ⟨hHeld.1.only (Only.of_below hb Nob) (fun h => h), hHeld.2.trans (hb.mono hHeld.2.size)⟩
            clear hK K hHeld
            have hHeld := hHeld2; clear hHeld2
            try simp only [Act.put, List.setIfInBounds_toArray, List.set_cons_zero, List.set_cons_succ]
            clear hb
            generalize x19.alloc (.cells Tryz.zeroCells65 65) = x20 at *
            obtain ⟨gb, hgb⟩ : ∃ g, x19.heap.size = g := ⟨_, rfl⟩
            rw [hgb] at B_20 hsz ⊢
            have hszgb := hsz
            have hne : ga ≠ gb := by omega
            clear hgb
            clear hsz
            have hna : ga ≠ g9 := A_20.out.ne hHeld.1 (by decide)
            have hnb : gb ≠ g9 := B_20.out.ne hHeld.1 (by decide)
            refine wpAnyH_ready (rs := [6]) (by kernel_rfl) (by simp) ?_
            refine AllReadyH.cons (o := ⟨none, _, _, _, _, _⟩) rfl (fun K hK => ?_) AllReadyH.nil
            refine step_store_row _ rfl 65 (.tmp 11) (.tmp 25) rfl ga C47 rfl rfl 65 Tryz.zeroCells65 A_20.out HV47_18.out.2.2 (by rw [hzs.out, HV47_18.out.1]) HV47_18.out.2.1 ?_
            refine hK.out _ _ ?_ (fun hHeld2 => ?_)
            · exact ⟨hHeld.1.setRow_far _ (Ne.symm hna), below_setRow hHeld.2 _ hszga⟩
            clear hK K hHeld
            have hHeld := hHeld2; clear hHeld2
            try simp only [Act.put, List.setIfInBounds_toArray, List.set_cons_zero, List.set_cons_succ]
            have A1 := Lib.hid (A_20.out.setRow C47)
            have B1 := Lib.hid (Whole.setRow_far B_20.out C47 (Ne.symm hne))
            have F1 := Lib.hid (F47_20.out.blk A_20.out (only_setRow _ _ C47)); have G1 := Lib.hid (F50_20.out.blk A_20.out (only_setRow _ _ C47))
            refine wpAnyH_ready (rs := [7]) (by kernel_rfl) (by simp) ?_
            refine AllReadyH.cons (o := ⟨none, _, _, _, _, _⟩) rfl (fun K hK => ?_) AllReadyH.nil
            refine step_store_row _ rfl 65 (.tmp 12) (.tmp 27) rfl gb C50 rfl rfl 65 Tryz.zeroCells65 B1.out HV50_19.out.2.2 (by rw [hzs.out, HV50_19.out.1]) HV50_19.out.2.1 ?_
            refine hK.out _ _ ?_ (fun hHeld2 => ?_)
            · exact ⟨hHeld.1.setRow_far _ (Ne.symm hnb), below_setRow hHeld.2 _ hszgb⟩
            clear hK K hHeld
            have hHeld := hHeld2; clear hHeld2
            try simp only [Act.put, List.setIfInBounds_toArray, List.set_cons_zero, List.set_cons_succ]
            have A2 := Lib.hid (Whole.setRow_far A1.out C50 hne)
            have B2 := Lib.hid (B1.out.setRow C50)
            have F2 := Lib.hid (F1.out.blk B1.out (only_setRow _ _ C50)); have G2 := Lib.hid (G1.out.blk B1.out (only_setRow _ _ C50))
            refine wpAnyH_done (by kernel_rfl) ?_ _
            go_wp2_with fail
            go_meet
            case rel => exact ⟨ga, gb, C47, C50, rfl, rfl, hne, Lib.hid ⟨A2.out, B2.out, F2.out, G2.out, BEL.out.trans (hHeld.2.mono BEL.out.size), Nat.le_trans BEL.out.size hszga, Nat.le_trans BEL.out.size hszgb⟩⟩
        · go_simp
          have hsz := hHeld.2.size
          have NW := Whole.new x18 65 Tryz.zeroCells65
          have hb : Below x18.heap.size x18 (x18.alloc (.cells Tryz.zeroCells65 65)) := (Below.refl _ _).alloc (Nat.le_refl _) _
          have F47_21 := Lib.hid (F47_18.out.below hb)
          have A_21 := Lib.hid (A_18.out.only (Only.of_below hb Nob) (fun h => h))
          have hlt21 := A_18.out.lt
          have B_21 := Lib.hid NW
          clear NW
          refine hK.out _ _ ?_ (fun hHeld2 => ?_)
          · exact ⟨hHeld.1.only (Only.of_below hb Nob) (fun h => h), hHeld.2.trans (hb.mono hHeld.2.size)⟩
          clear hK K hHeld
          have hHeld := hHeld2; clear hHeld2
          try simp only [Act.put, List.setIfInBounds_toArray, List.set_cons_zero, List.set_cons_succ]
          clear hb
          generalize x18.alloc (.cells Tryz.zeroCells65 65) = x21 at *
          obtain ⟨gb, hgb⟩ : ∃ g, x18.heap.size = g := ⟨_, rfl⟩
          rw [hgb] at B_21 hsz ⊢
          have hszgb := hsz
          have hne : ga ≠ gb := by omega
          clear hgb
          clear hsz
          refine wpAnyH_ready (rs := [3]) (by kernel_rfl) (by simp) ?_
          refine (AllReadyH.cons (o := ⟨some 27, _, _, _, _, _⟩) rfl (fun K hK => ?_) AllReadyH.nil)
          · go_simp
            have hsz := hHeld.2.size
            refine (CD.out _).mono ?_
            rintro e x22 hres
            obtain ⟨C50, rfl, hf50, hb⟩ := dynRaw_of hres
            have hv50 := hf50.v
            have HV50_22 := Lib.hid hv50
            have F47_22 := Lib.hid (F47_21.out.below hb)
            have A_22 := Lib.hid (A_21.out.only (Only.of_below hb Nob) (fun h => h))
            have B_22 := Lib.hid (B_21.out.only (Only.of_below hb Nob) (fun h => h))
            have F50_22 := Lib.hid hf50
            refine hK.out _ _ ?_ (fun hHeld2 => ?_)
            · exact ⟨hHeld.1.only (Only.of_below hb Nob) (fun h => h), hHeld.2.trans (hb.mono hHeld.2.size)⟩
            clear hK K hHeld
            have hHeld := hHeld2; clear hHeld2
            try simp only [Act.put, List.setIfInBounds_toArray, List.set_cons_zero, List.set_cons_succ]
            clear hb hres hv50 hf50
            clear hsz
            have hna : ga ≠ g9 := A_22.out.ne hHeld.1 (by decide)
            have hnb : gb ≠ g9 := B_22.out.ne hHeld.1 (by decide)
            refine wpAnyH_ready (rs := [6]) (by kernel_rfl) (by simp) ?_
            refine AllReadyH.cons (o := ⟨none, _, _, _, _, _⟩) rfl (fun K hK => ?_) AllReadyH.nil
            refine step_store_row _ rfl 65 (.tmp 11) (.tmp 25) rfl ga C47 rfl rfl 65 Tryz.zeroCells65 A_22.out HV47_18.out.2.2 (by rw [hzs.out, HV47_18.out.1]) HV47_18.out.2.1 ?_
            refine hK.out _ _ ?_ (fun hHeld2 => ?_)
            · exact ⟨hHeld.1.setRow_far _ (Ne.symm hna), below_setRow hHeld.2 _ hszga⟩
            clear hK K hHeld
            have hHeld := hHeld2; clear hHeld2
            try simp only [Act.put, List.setIfInBounds_toArray, List.set_cons_zero, List.set_cons_succ]
            have A1 := Lib.hid (A_22.out.setRow C47)
            have B1 := Lib.hid (Whole.setRow_far B_22.out C47 (Ne.symm hne))
            have F1 := Lib.hid (F47_22.out.blk A_22.out (only_setRow _ _ C47)); have G1 := Lib.hid (F50_22.out.blk A_22.out (only_setRow _ _ C47))
            refine wpAnyH_ready (rs := [7]) (by kernel_rfl) (by simp) ?_
            refine AllReadyH.cons (o := ⟨none, _, _, _, _, _⟩) rfl (fun K hK => ?_) AllReadyH.nil
            refine step_store_row _ rfl 65 (.tmp 12) (.tmp 27) rfl gb C50 rfl rfl 65 Tryz.zeroCells65 B1.out HV50_22.out.2.2 (by rw [hzs.out, HV50_22.out.1]) HV50_22.out.2.1 ?_
            refine hK.out _ _ ?_ (fun hHeld2 => ?_)
            · exact ⟨hHeld.1.setRow_far _ (Ne.symm hnb), below_setRow hHeld.2 _ hszgb⟩
            clear hK K hHeld
            have hHeld := hHeld2; clear hHeld2
            try simp only [Act.put, List.setIfInBounds_toArray, List.set_cons_zero, List.set_cons_succ]
            have A2 := Lib.hid (Whole.setRow_far A1.out C50 hne)
            have B2 := Lib.hid (B1.out.setRow C50)
            have F2 := Lib.hid (F1.out.blk B1.out (only_setRow _ _ C50)); have G2 := Lib.hid (G1.out.blk B1.out (only_setRow _ _ C50))
            refine wpAnyH_done (by kernel_rfl) ?_ _
            go_wp2_with fail
            go_meet
            case rel => exact ⟨ga, gb, C47, C50, rfl, rfl, hne, Lib.hid ⟨A2.out, B2.out, F2.out, G2.out, BEL.out.trans (hHeld.2.mono BEL.out.size), Nat.le_trans BEL.out.size hszga, Nat.le_trans BEL.out.size hszgb⟩⟩
      · go_simp
        have hsz := hHeld.2.size
        have NW := Whole.new x17 65 Tryz.zeroCells65
        have hb : Below x17.heap.size x17 (x17.alloc (.cells Tryz.zeroCells65 65)) := (Below.refl _ _).alloc (Nat.le_refl _) _
        have A_23 := Lib.hid (A_17.out.only (Only.of_below hb Nob) (fun h => h))
        have hlt23 := A_17.out.lt
        have B_23 := Lib.hid NW
        clear NW
        refine hK.out _ _ ?_ (fun hHeld2 => ?_)
        · exact ⟨hHeld.1.only (Only.of_below hb Nob) (fun h => h), hHeld.2.trans (hb.mono hHeld.2.size)⟩
        clear hK K hHeld
        have hHeld := hHeld2; clear hHeld2
        try simp only [Act.put, List.setIfInBounds_toArray, List.set_cons_zero, List.set_cons_succ]
        clear hb
        generalize x17.alloc (.cells Tryz.zeroCells65 65) = x23 at *
        obtain ⟨gb, hgb⟩ : ∃ g, x17.heap.size = g := ⟨_, rfl⟩
        rw [hgb] at B_23 hsz ⊢
        have hszgb := hsz
        have hne : ga ≠ gb := by omega
        clear hgb
        clear hsz
        refine wpAnyH_ready (rs := [1]) (by kernel_rfl) (by simp) ?_
        refine (AllReadyH.cons (o := ⟨some 25, _, _, _, _, _⟩) rfl (fun K hK => ?_) AllReadyH.nil)
        · go_simp
          have hsz := hHeld.2.size
          refine (CF.out _).mono ?_
          rintro e x24 hres
          obtain ⟨C47, rfl, hf47, hb⟩ := fixRaw_of hres
          have hv47 := hf47.v
          have HV47_24 := Lib.hid hv47
          have A_24 := Lib.hid (A_23.out.only (Only.of_below hb Nob) (fun h => h))
          have B_24 := Lib.hid (B_23.out.only (Only.of_below hb Nob) (fun h => h))
          have F47_24 := Lib.hid hf47
          refine hK.out _ _ ?_ (fun hHeld2 => ?_)
          · exact ⟨hHeld.1.only (Only.of_below hb Nob) (fun h => h), hHeld.2.trans (hb.mono hHeld.2.size)⟩
          clear hK K hHeld
          have hHeld := hHeld2; clear hHeld2
          try simp only [Act.put, List.setIfInBounds_toArray, List.set_cons_zero, List.set_cons_succ]
          clear hb hres hv47 hf47
          clear hsz
          refine wpAnyH_ready (rs := [3]) (by kernel_rfl) (by simp) ?_
          refine (AllReadyH.cons (o := ⟨some 27, _, _, _, _, _⟩) rfl (fun K hK => ?_) AllReadyH.nil)
          · go_simp
            have hsz := hHeld.2.size
            refine (CD.out _).mono ?_
            rintro e x25 hres
            obtain ⟨C50, rfl, hf50, hb⟩ := dynRaw_of hres
            have hv50 := hf50.v
            have HV50_25 := Lib.hid hv50
            have F47_25 := Lib.hid (F47_24.out.below hb)
            have A_25 := Lib.hid (A_24.out.only (Only.of_below hb Nob) (fun h => h))
            have B_25 := Lib.hid (B_24.out.only (Only.of_below hb Nob) (fun h => h))
            have F50_25 := Lib.hid hf50
            refine hK.out _ _ ?_ (fun hHeld2 => ?_)
            · exact ⟨hHeld.1.only (Only.of_below hb Nob) (fun h => h), hHeld.2.trans (hb.mono hHeld.2.size)⟩
            clear hK K hHeld
            have hHeld := hHeld2; clear hHeld2
            try simp only [Act.put, List.setIfInBounds_toArray, List.set_cons_zero, List.set_cons_succ]
            clear hb hres hv50 hf50
            clear hsz
            have hna : ga ≠ g9 := A_25.out.ne hHeld.1 (by decide)
            have hnb : gb ≠ g9 := B_25.out.ne hHeld.1 (by decide)
            refine wpAnyH_ready (rs := [6]) (by kernel_rfl) (by simp) ?_
            refine AllReadyH.cons (o := ⟨none, _, _, _, _, _⟩) rfl (fun K hK => ?_) AllReadyH.nil
            refine step_store_row _ rfl 65 (.tmp 11) (.tmp 25) rfl ga C47 rfl rfl 65 Tryz.zeroCells65 A_25.out HV47_24.out.2.2 (by rw [hzs.out, HV47_24.out.1]) HV47_24.out.2.1 ?_
            refine hK.out _ _ ?_ (fun hHeld2 => ?_)
            · exact ⟨hHeld.1.setRow_far _ (Ne.symm hna), below_setRow hHeld.2 _ hszga⟩
            clear hK K hHeld
            have hHeld := hHeld2; clear hHeld2
            try simp only [Act.put, List.setIfInBounds_toArray, List.set_cons_zero, List.set_cons_succ]
            have A1 := Lib.hid (A_25.out.setRow C47)
            have B1 := Lib.hid (Whole.setRow_far B_25.out C47 (Ne.symm hne))
            have F1 := Lib.hid (F47_25.out.blk A_25.out (only_setRow _ _ C47)); have G1 := Lib.hid (F50_25.out.blk A_25.out (only_setRow _ _ C47))
            refine wpAnyH_ready (rs := [7]) (by kernel_rfl) (by simp) ?_
            refine AllReadyH.cons (o := ⟨none, _, _, _, _, _⟩) rfl (fun K hK => ?_) AllReadyH.nil
            refine step_store_row _ rfl 65 (.tmp 12) (.tmp 27) rfl gb C50 rfl rfl 65 Tryz.zeroCells65 B1.out HV50_25.out.2.2 (by rw [hzs.out, HV50_25.out.1]) HV50_25.out.2.1 ?_
            refine hK.out _ _ ?_ (fun hHeld2 => ?_)
            · exact ⟨hHeld.1.setRow_far _ (Ne.symm hnb), below_setRow hHeld.2 _ hszgb⟩
            clear hK K hHeld
            have hHeld := hHeld2; clear hHeld2
            try simp only [Act.put, List.setIfInBounds_toArray, List.set_cons_zero, List.set_cons_succ]
            have A2 := Lib.hid (Whole.setRow_far A1.out C50 hne)
            have B2 := Lib.hid (B1.out.setRow C50)
            have F2 := Lib.hid (F1.out.blk B1.out (only_setRow _ _ C50)); have G2 := Lib.hid (G1.out.blk B1.out (only_setRow _ _ C50))
            refine wpAnyH_done (by kernel_rfl) ?_ _
            go_wp2_with fail
            go_meet
            case rel => exact ⟨ga, gb, C47, C50, rfl, rfl, hne, Lib.hid ⟨A2.out, B2.out, F2.out, G2.out, BEL.out.trans (hHeld.2.mono BEL.out.size), Nat.le_trans BEL.out.size hszga, Nat.le_trans BEL.out.size hszgb⟩⟩
    · go_simp
      have hsz := hHeld.2.size
      have NW := Whole.new wd 65 Tryz.zeroCells65
      have hb : Below wd.heap.size wd (wd.alloc (.cells Tryz.zeroCells65 65)) := (Below.refl _ _).alloc (Nat.le_refl _) _
      have B_26 := Lib.hid NW
      clear NW
      refine hK.out _ _ ?_ (fun hHeld2 => ?_)
      · exact ⟨hHeld.1.only (Only.of_below hb Nob) (fun h => h), hHeld.2.trans (hb.mono hHeld.2.size)⟩
      clear hK K hHeld
      have hHeld := hHeld2; clear hHeld2
      try simp only [Act.put, List.setIfInBounds_toArray, List.set_cons_zero, List.set_cons_succ]
      clear hb
      generalize wd.alloc (.cells Tryz.zeroCells65 65) = x26 at *
      obtain ⟨gb, hgb⟩ : ∃ g, wd.heap.size = g := ⟨_, rfl⟩
      rw [hgb] at B_26 hsz ⊢
      have hszgb := hsz
      clear hgb
      clear hsz
      refine wpAnyH_ready (rs := [1, 4]) (by kernel_rfl) (by simp) ?_
      refine (AllReadyH.cons (o := ⟨some 25, _, _, _, _, _⟩) rfl (fun K hK => ?_) (AllReadyH.cons (o := ⟨some 11, _, _, _, _, _⟩) rfl (fun K hK => ?_) AllReadyH.nil))
      · go_simp
        have hsz := hHeld.2.size
        refine (CF.out _).mono ?_
        rintro e x27 hres
        obtain ⟨C47, rfl, hf47, hb⟩ := fixRaw_of hres
        have hv47 := hf47.v
        have HV47_27 := Lib.hid hv47
        have B_27 := Lib.hid (B_26.out.only (Only.of_below hb Nob) (fun h => h))
        have F47_27 := Lib.hid hf47
        refine hK.out _ _ ?_ (fun hHeld2 => ?_)
        · exact ⟨hHeld.1.only (Only.of_below hb Nob) (fun h => h), hHeld.2.trans (hb.mono hHeld.2.size)⟩
        clear hK K hHeld
        have hHeld := hHeld2; clear hHeld2
        try simp only [Act.put, List.setIfInBounds_toArray, List.set_cons_zero, List.set_cons_succ]
        clear hb hres hv47 hf47
        clear hsz
        refine wpAnyH_ready (rs := [3, 4]) (by kernel_rfl) (by simp) ?_
        refine (AllReadyH.cons (o := ⟨some 27, _, _, _, _, _⟩) rfl (fun K hK => ?_) (AllReadyH.cons (o := ⟨some 11, _, _, _, _, _⟩) rfl (fun K hK => ?_) AllReadyH.nil))
        · go_simp
          have hsz := hHeld.2.size
          refine (CD.out _).mono ?_
          rintro e x28 hres
          obtain ⟨C50, rfl, hf50, hb⟩ := dynRaw_of hres
          have hv50 := hf50.v
          have HV50_28 := Lib.hid hv50
          have F47_28 := Lib.hid (F47_27.out.below hb)
          have B_28 := Lib.hid (B_27.out.only (Only.of_below hb Nob) (fun h => h))
          have F50_28 := Lib.hid hf50
          refine hK.out _ _ ?_ (fun hHeld2 => ?_)
          · exact ⟨hHeld.1.only (Only.of_below hb Nob) (fun h => h), hHeld.2.trans (hb.mono hHeld.2.size)⟩
          clear hK K hHeld
          have hHeld := hHeld2; clear hHeld2
          try simp only [Act.put, List.setIfInBounds_toArray, List.set_cons_zero, List.set_cons_succ]
          clear hb hres hv50 hf50
          clear hsz
          refine wpAnyH_ready (rs := [4]) (by kernel_rfl) (by simp) ?_
          refine (AllReadyH.cons (o := ⟨some 11, _, _, _, _, _⟩) rfl (fun K hK => ?_) AllReadyH.nil)
          · go_simp
            have hsz := hHeld.2.size
            have NW := Whole.new x28 65 Tryz.zeroCells65
            have hb : Below x28.heap.size x28 (x28.alloc (.cells Tryz.zeroCells65 65)) := (Below.refl _ _).alloc (Nat.le_refl _) _
            have F47_29 := Lib.hid (F47_28.out.below hb)
            have F50_29 := Lib.hid (F50_28.out.below hb)
            have B_29 := Lib.hid (B_28.out.only (Only.of_below hb Nob) (fun h => h))
            have hlt29 := B_28.out.lt
            have A_29 := Lib.hid NW
            clear NW
            refine hK.out _ _ ?_ (fun hHeld2 => ?_)
            · exact ⟨hHeld.1.only (Only.of_below hb Nob) (fun h => h), hHeld.2.trans (hb.mono hHeld.2.size)⟩
            clear hK K hHeld
            have hHeld := hHeld2; clear hHeld2
            try simp only [Act.put, List.setIfInBounds_toArray, List.set_cons_zero, List.set_cons_succ]
            clear hb
            generalize x28.alloc (.cells Tryz.zeroCells65 65) = x29 at *
            obtain ⟨ga, hga⟩ : ∃ g, x28.heap.size = g := ⟨_, rfl⟩
            rw [hga] at A_29 hsz ⊢
            have hszga := hsz
            have hne : ga ≠ gb := by omega
            clear hga
            clear hsz
            have hna : ga ≠ g9 := A_29.out.ne hHeld.1 (by decide)
            have hnb : gb ≠ g9 := B_29.out.ne hHeld.1 (by decide)
            refine wpAnyH_ready (rs := [6]) (by kernel_rfl) (by simp) ?_
            refine AllReadyH.cons (o := ⟨none, _, _, _, _, _⟩) rfl (fun K hK => ?_) AllReadyH.nil
            refine step_store_row _ rfl 65 (.tmp 11) (.tmp 25) rfl ga C47 rfl rfl 65 Tryz.zeroCells65 A_29.out HV47_27.out.2.2 (by rw [hzs.out, HV47_27.out.1]) HV47_27.out.2.1 ?_
            refine hK.out _ _ ?_ (fun hHeld2 => ?_)
            · exact ⟨hHeld.1.setRow_far _ (Ne.symm hna), below_setRow hHeld.2 _ hszga⟩
            clear hK K hHeld
            have hHeld := hHeld2; clear hHeld2
            try simp only [Act.put, List.setIfInBounds_toArray, List.set_cons_zero, List.set_cons_succ]
            have A1 := Lib.hid (A_29.out.setRow C47)
            have B1 := Lib.hid (Whole.setRow_far B_29.out C47 (Ne.symm hne))
            have F1 := Lib.hid (F47_29.out.blk A_29.out (only_setRow _ _ C47)); have G1 := Lib.hid (F50_29.out.blk A_29.out (only_setRow _ _ C47))
            refine wpAnyH_ready (rs := [7]) (by kernel_rfl) (by simp) ?_
            refine AllReadyH.cons (o := ⟨none, _, _, _, _, _⟩) rfl (fun K hK => ?_) AllReadyH.nil
            refine step_store_row _ rfl 65 (.tmp 12) (.tmp 27) rfl gb C50 rfl rfl 65 Tryz.zeroCells65 B1.out HV50_28.out.2.2 (by rw [hzs.out, HV50_28.out.1]) HV50_28.out.2.1 ?_
            refine hK.out _ _ ?_ (fun hHeld2 => ?_)
            · exact ⟨hHeld.1.setRow_far _ (Ne.symm hnb), below_setRow hHeld.2 _ hszgb⟩
            clear hK K hHeld
            have hHeld := hHeld2; clear hHeld2
            try simp only [Act.put, List.setIfInBounds_toArray, List.set_cons_zero, List.set_cons_succ]
            have A2 := Lib.hid (Whole.setRow_far A1.out C50 hne)
            have B2 := Lib.hid (B1.out.setRow C50)
            have F2 := Lib.hid (F1.out.blk B1.out (only_setRow _ _ C50)); have G2 := Lib.hid (G1.out.blk B1.out (only_setRow _ _ C50))
            refine wpAnyH_done (by kernel_rfl) ?_ _
            go_wp2_with fail
            go_meet
            case rel => exact ⟨ga, gb, C47, C50, rfl, rfl, hne, Lib.hid ⟨A2.out, B2.out, F2.out, G2.out, BEL.out.trans (hHeld.2.mono BEL.out.size), Nat.le_trans BEL.out.size hszga, Nat.le_trans BEL.out.size hszgb⟩⟩
        · go_simp
          have hsz := hHeld.2.size
          have NW := Whole.new x27 65 Tryz.zeroCells65
          have hb : Below x27.heap.size x27 (x27.alloc (.cells Tryz.zeroCells65 65)) := (Below.refl _ _).alloc (Nat.le_refl _) _
          have F47_30 := Lib.hid (F47_27.out.below hb)
          have B_30 := Lib.hid (B_27.out.only (Only.of_below hb Nob) (fun h => h))
          have hlt30 := B_27.out.lt
          have A_30 := Lib.hid NW
          clear NW
          refine hK.out _ _ ?_ (fun hHeld2 => ?_)
          · exact ⟨hHeld.1.only (Only.of_below hb Nob) (fun h => h), hHeld.2.trans (hb.mono hHeld.2.size)⟩
          clear hK K hHeld
          have hHeld := hHeld2; clear hHeld2
          try simp only [Act.put, List.setIfInBounds_toArray, List.set_cons_zero, List.set_cons_succ]
          clear hb
          generalize x27.alloc (.cells Tryz.zeroCells65 65) = x30 at *
          obtain ⟨ga, hga⟩ : ∃ g, x27.heap.size = g := ⟨_, rfl⟩
          rw [hga] at A_30 hsz ⊢
          have hszga := hsz
          have hne : ga ≠ gb := by omega
          clear hga
          clear hsz
          refine wpAnyH_ready (rs := [3]) (by kernel_rfl) (by simp) ?_
          refine (AllReadyH.cons (o := ⟨some 27, _, _, _, _, _⟩) rfl (fun K hK => ?_) AllReadyH.nil)
          · go_simp
            have hsz := hHeld.2.size
            refine (CD.out _).mono ?_
            rintro e x31 hres
            obtain ⟨C50, rfl, hf50, hb⟩ := dynRaw_of hres
            have hv50 := hf50.v
            have HV50_31 := Lib.hid hv50
            have F47_31 := Lib.hid (F47_30.out.below hb)
            have A_31 := Lib.hid (A_30.out.only (Only.of_below hb Nob) (fun h => h))
            have B_31 := Lib.hid (B_30.out.only (Only.of_below hb Nob) (fun h => h))
            have F50_31 := Lib.hid hf50
            refine hK.out _ _ ?_ (fun hHeld2 => ?_)
            · exact ⟨hHeld.1.only (Only.of_below hb Nob) (fun h => h), hHeld.2.trans (hb.mono hHeld.2.size)⟩
            clear hK K hHeld
            have hHeld := hHeld2; clear hHeld2
            try simp only [Act.put, List.setIfInBounds_toArray, List.set_cons_zero, List.set_cons_succ]
            clear hb hres hv50 hf50
            clear hsz
            have hna : ga ≠ g9 := A_31.out.ne hHeld.1 (by decide)
            have hnb : gb ≠ g9 := B_31.out.ne hHeld.1 (by decide)
            refine wpAnyH_ready (rs := [6]) (by kernel_rfl) (by simp) ?_
            refine AllReadyH.cons (o := ⟨none, _, _, _, _, _⟩) rfl (fun K hK => ?_) AllReadyH.nil
            refine step_store_row _ rfl 65 (.tmp 11) (.tmp 25) rfl ga C47 rfl rfl 65 Tryz.zeroCells65 A_31.out HV47_27.out.2.2 (by rw [hzs.out, HV47_27.out.1]) HV47_27.out.2.1 ?_
            refine hK.out _ _ ?_ (fun hHeld2 => ?_)
            · exact ⟨hHeld.1.setRow_far _ (Ne.symm hna), below_setRow hHeld.2 _ hszga⟩
            clear hK K hHeld
            have hHeld := hHeld2; clear hHeld2
            try simp only [Act.put, List.setIfInBounds_toArray, List.set_cons_zero, List.set_cons_succ]
            have A1 := Lib.hid (A_31.out.setRow C47)
            have B1 := Lib.hid (Whole.setRow_far B_31.out C47 (Ne.symm hne))
            have F1 := Lib.hid (F47_31.out.blk A_31.out (only_setRow _ _ C47)); have G1 := Lib.hid (F50_31.out.blk A_31.out (only_setRow _ _ C47))
            refine wpAnyH_ready (rs := [7]) (by kernel_rfl) (by simp) ?_
            refine AllReadyH.cons (o := ⟨none, _, _, _, _, _⟩) rfl (fun K hK => ?_) AllReadyH.nil
            refine step_store_row _ rfl 65 (.tmp 12) (.tmp 27) rfl gb C50 rfl rfl 65 Tryz.zeroCells65 B1.out HV50_31.out.2.2 (by rw [hzs.out, HV50_31.out.1]) HV50_31.out.2.1 ?_
            refine hK.out _ _ ?_ (fun hHeld2 => ?_)
            · exact ⟨hHeld.1.setRow_far _ (Ne.symm hnb), below_setRow hHeld.2 _ hszgb⟩
            clear hK K hHeld
            have hHeld := hHeld2; clear hHeld2
            try simp only [Act.put, List.setIfInBounds_toArray, List.set_cons_zero, List.set_cons_succ]
            have A2 := Lib.hid (Whole.setRow_far A1.out C50 hne)
            have B2 := Lib.hid (B1.out.setRow C50)
            have F2 := Lib.hid (F1.out.blk B1.out (only_setRow _ _ C50)); have G2 := Lib.hid (G1.out.blk B1.out (only_setRow _ _ C50))
            refine wpAnyH_done (by kernel_rfl) ?_ _
            go_wp2_with fail
            go_meet
            case rel => exact ⟨ga, gb, C47, C50, rfl, rfl, hne, Lib.hid ⟨A2.out, B2.out, F2.out, G2.out, BEL.out.trans (hHeld.2.mono BEL.out.size), Nat.le_trans BEL.out.size hszga, Nat.le_trans BEL.out.size hszgb⟩⟩
      · go_simp
        have hsz := hHeld.2.size
        have NW := Whole.new x26 65 Tryz.zeroCells65
        have hb : Below x26.heap.size x26 (x26.alloc (.cells Tryz.zeroCells65 65)) := (Below.refl _ _).alloc (Nat.le_refl _) _
        have B_32 := Lib.hid (B_26.out.only (Only.of_below hb Nob) (fun h => h))
        have hlt32 := B_26.out.lt
        have A_32 := Lib.hid NW
        clear NW
        refine hK.out _ _ ?_ (fun hHeld2 => ?_)
        · exact ⟨hHeld.1.only (Only.of_below hb Nob) (fun h => h), hHeld.2.trans (hb.mono hHeld.2.size)⟩
        clear hK K hHeld
        have hHeld := hHeld2; clear hHeld2
        try simp only [Act.put, List.setIfInBounds_toArray, List.set_cons_zero, List.set_cons_succ]
        clear hb
        generalize x26.alloc (.cells Tryz.zeroCells65 65) = x32 at *
        obtain ⟨ga, hga⟩ : ∃ g, x26.heap.size = g := ⟨_, rfl⟩
        rw [hga] at A_32 hsz ⊢
        have hszga := hsz
        have hne : ga ≠ gb := by omega
        clear hga
        clear hsz
        refine wpAnyH_ready (rs := [1]) (by kernel_rfl) (by simp) ?_
        refine (AllReadyH.cons (o := ⟨some 25, _, _, _, _, _⟩) rfl (fun K hK => ?_) AllReadyH.nil)
        · go_simp
          have hsz := hHeld.2.size
          refine (CF.out _).mono ?_
          rintro e x33 hres
          obtain ⟨C47, rfl, hf47, hb⟩ := fixRaw_of hres
          have hv47 := hf47.v
          have HV47_33 := Lib.hid hv47
          have A_33 := Lib.hid (A_32.out.only (Only.of_below hb Nob) (fun h => h))
          have B_33 := Lib.hid (B_32.out.only (Only.of_below hb Nob) (fun h => h))
          have F47_33 := Lib.hid hf47
          refine hK.out _ _ ?_ (fun hHeld2 => ?_)
          · exact ⟨hHeld.1.only (Only.of_below hb Nob) (fun h => h), hHeld.2.trans (hb.mono hHeld.2.size)⟩
          clear hK K hHeld
          have hHeld := hHeld2; clear hHeld2
          try simp only [Act.put, List.setIfInBounds_toArray, List.set_cons_zero, List.set_cons_succ]
          clear hb hres hv47 hf47
          clear hsz
          refine wpAnyH_ready (rs := [3]) (by kernel_rfl) (by simp) ?_
          refine (AllReadyH.cons (o := ⟨some 27, _, _, _, _, _⟩) rfl (fun K hK => ?_) AllReadyH.nil)
          · go_simp
            have hsz := hHeld.2.size
            refine (CD.out _).mono ?_
            rintro e x34 hres
            obtain ⟨C50, rfl, hf50, hb⟩ := dynRaw_of hres
            have hv50 := hf50.v
            have HV50_34 := Lib.hid hv50
            have F47_34 := Lib.hid (F47_33.out.below hb)
            have A_34 := Lib.hid (A_33.out.only (Only.of_below hb Nob) (fun h => h))
            have B_34 := Lib.hid (B_33.out.only (Only.of_below hb Nob) (fun h => h))
            have F50_34 := Lib.hid hf50
            refine hK.out _ _ ?_ (fun hHeld2 => ?_)
            · exact ⟨hHeld.1.only (Only.of_below hb Nob) (fun h => h), hHeld.2.trans (hb.mono hHeld.2.size)⟩
            clear hK K hHeld
            have hHeld := hHeld2; clear hHeld2
            try simp only [Act.put, List.setIfInBounds_toArray, List.set_cons_zero, List.set_cons_succ]
            clear hb hres hv50 hf50
            clear hsz
            have hna : ga ≠ g9 := A_34.out.ne hHeld.1 (by decide)
            have hnb : gb ≠ g9 := B_34.out.ne hHeld.1 (by decide)
            refine wpAnyH_ready (rs := [6]) (by kernel_rfl) (by simp) ?_
            refine AllReadyH.cons (o := ⟨none, _, _, _, _, _⟩) rfl (fun K hK => ?_) AllReadyH.nil
            refine step_store_row _ rfl 65 (.tmp 11) (.tmp 25) rfl ga C47 rfl rfl 65 Tryz.zeroCells65 A_34.out HV47_33.out.2.2 (by rw [hzs.out, HV47_33.out.1]) HV47_33.out.2.1 ?_
            refine hK.out _ _ ?_ (fun hHeld2 => ?_)
            · exact ⟨hHeld.1.setRow_far _ (Ne.symm hna), below_setRow hHeld.2 _ hszga⟩
            clear hK K hHeld
            have hHeld := hHeld2; clear hHeld2
            try simp only [Act.put, List.setIfInBounds_toArray, List.set_cons_zero, List.set_cons_succ]
            have A1 := Lib.hid (A_34.out.setRow C47)
            have B1 := Lib.hid (Whole.setRow_far B_34.out C47 (Ne.symm hne))
            have F1 := Lib.hid (F47_34.out.blk A_34.out (only_setRow _ _ C47)); have G1 := Lib.hid (F50_34.out.blk A_34.out (only_setRow _ _ C47))
            refine wpAnyH_ready (rs := [7]) (by kernel_rfl) (by simp) ?_
            refine AllReadyH.cons (o := ⟨none, _, _, _, _, _⟩) rfl (fun K hK => ?_) AllReadyH.nil
            refine step_store_row _ rfl 65 (.tmp 12) (.tmp 27) rfl gb C50 rfl rfl 65 Tryz.zeroCells65 B1.out HV50_34.out.2.2 (by rw [hzs.out, HV50_34.out.1]) HV50_34.out.2.1 ?_
            refine hK.out _ _ ?_ (fun hHeld2 => ?_)
            · exact ⟨hHeld.1.setRow_far _ (Ne.symm hnb), below_setRow hHeld.2 _ hszgb⟩
            clear hK K hHeld
            have hHeld := hHeld2; clear hHeld2
            try simp only [Act.put, List.setIfInBounds_toArray, List.set_cons_zero, List.set_cons_succ]
            have A2 := Lib.hid (Whole.setRow_far A1.out C50 hne)
            have B2 := Lib.hid (B1.out.setRow C50)
            have F2 := Lib.hid (F1.out.blk B1.out (only_setRow _ _ C50)); have G2 := Lib.hid (G1.out.blk B1.out (only_setRow _ _ C50))
            refine wpAnyH_done (by kernel_rfl) ?_ _
            go_wp2_with fail
            go_meet
            case rel => exact ⟨ga, gb, C47, C50, rfl, rfl, hne, Lib.hid ⟨A2.out, B2.out, F2.out, G2.out, BEL.out.trans (hHeld.2.mono BEL.out.size), Nat.le_trans BEL.out.size hszga, Nat.le_trans BEL.out.size hszgb⟩⟩
  case rest =>
    obtain ⟨ga, gb, C47, C50, rfl, rfl, hne, h⟩ := hcut
    obtain ⟨hA, hB, hF47, hF50, hbel, h1, h2⟩ := h.out
    have V47 := Lib.hid hF47.v; have V50 := Lib.hid hF50.v
    have K47 := Lib.hid (fixBlk HCW.out At nt ct hnt C47 wc hF47)
    obtain ⟨a, ha⟩ : ∃ a, bits.length = a := ⟨_, rfl⟩
    have HA := Lib.hid ha
    have HSL : Hid ((storedH bits nb false ++ unpack bs).length = a + stoS a nb) := Lib.hid (by rw [stored_len _ _ _ HBS.out, ha])
    have CLN := Lib.hid (fun W (hW : WriterAt W B g sv bits) => len_any B g sv bits W hW)
    rw [ha] at CLN hbl
    have CSB := Lib.hid (fun W => storedBits_any a nb (by omega) hnb W)
    have CST := Lib.hid (fun W (hW : Below w.heap.size w W) (hWr : WriterAt W B g sv bits) => stored_any B g sv bits (by omega) Ab nb cb bs HBS.out H256.out hnb last W hWr (fun W' hW' => HBI.out W' ((Only.of_below hW _).trans hW')))
    obtain ⟨m47, hm47⟩ : ∃ m, fixM l = m := ⟨_, rfl⟩
    obtain ⟨m50, hm50⟩ : ∃ m, dynM F l = m := ⟨_, rfl⟩
    rw [hm47] at K47
    have HM50 := Lib.hid hm50; have HM47 := Lib.hid hm47; have HGA := Lib.hid h1
    have ROWA := Lib.hid hA; have ROWB := Lib.hid hB; have RAW47 := Lib.hid hF47; have RAW50 := Lib.hid hF50; have BELc := Lib.hid hbel
    clear hA hB hF47 hF50 hbel h h1 h2 ha hm47 hm50 hzs hzs9 HI hone CF CD W2 BEL
    go_wp2_with (refine wpList_load_row rfl 65 (.tmp 11) rfl ga rfl 65 C47 (0, 0) _ ROWA.out Tryz.underlying65 rfl V47.out.2.2 ?_)
    refine (K47.out.bits wc (Tw.refl _)).mono ?_
    rintro e wd ⟨rfl, hbd⟩
    have ROWA1 := Lib.hid (ROWA.out.only (Only.of_below hbd Nob) (fun h => h)); have ROWB1 := Lib.hid (ROWB.out.only (Only.of_below hbd Nob) (fun h => h))
    have RAW47d := Lib.hid (RAW47.out.below hbd); have RAW50d := Lib.hid (RAW50.out.below hbd)
    have BELd := Lib.hid (BELc.out.trans (hbd.mono BELc.out.size))
    have K50 := Lib.hid (dynBlk HCW.out At nt ct hnt C50 wd RAW50d.out)
    rw [HM50.out] at K50
    have hmm := K47.out.most
    have hmm2 := K50.out.most
    clear hbd ROWA ROWB RAW47 RAW50 BELc
    go_wp2_with (refine wpList_load_row rfl 65 (.tmp 12) rfl gb rfl 65 C50 (0, 0) _ ROWB1.out Tryz.underlying65 rfl V50.out.2.2 ?_)
    refine (K50.out.bits wd (Tw.refl _)).mono ?_
    rintro e we ⟨rfl, hbe⟩
    have ROWA2 := Lib.hid (ROWA1.out.only (Only.of_below hbe Nob) (fun h => h)); have ROWB2 := Lib.hid (ROWB1.out.only (Only.of_below hbe Nob) (fun h => h))
    have RAW47e := Lib.hid (RAW47d.out.below hbe); have RAW50e := Lib.hid (RAW50d.out.below hbe)
    have BELe := Lib.hid (BELd.out.trans (hbe.mono BELd.out.size))
    clear hbe ROWA1 ROWB1 RAW47d RAW50d BELd K47 K50
    have dn : decide (nb ≤ 65535) = true := decide_eq_true hnb
    have dn' : decide ((nb : Int) ≤ 65535) = true := decide_eq_true (by omega)
    by_cases hd : m50 < m47
    · have dd : decide (m50 < m47) = true := decide_eq_true hd
      have dd' : decide ((m50 : Int) < m47) = true := decide_eq_true (by omega)
      have ROWz := Lib.hid (ROWA2.out.setRow C50)
      have BELz : Hid (Below w.heap.size w (we.setRow ga C50)) := Lib.hid (below_setRow BELe.out _ HGA.out)
      have HWz : Hid (WriterAt (we.setRow ga C50) B g sv bits) := Lib.hid (HW.out.below BELz.out)
      have BLKz := Lib.hid (dynBlk HCW.out At nt ct hnt C50 (we.setRow ga C50) (RAW50e.out.blk ROWA2.out (only_setRow _ _ _)))
      rw [HM50.out] at BLKz
      go_wp2_with (first
        | (refine wpList_load_row rfl 65 (.tmp 12) rfl gb rfl 65 C50 (0, 0) _ ROWB2.out Tryz.underlying65 rfl V50.out.2.2 ?_)
        | (refine wpList_store_row rfl 65 (.tmp 11) (.tmp 35) rfl ga C50 rfl rfl 65 C47 ROWA2.out V50.out.2.2 (by rw [V47.out.1, V50.out.1]) V50.out.2.1 ?_))
      clear dd dd' ROWA2 ROWB2 BELe
      by_cases hs : stoS a nb ≤ m50
      · have ds : decide (stoS a nb ≤ m50) = true := decide_eq_true hs
        have ds' : decide ((stoS a nb : Int) ≤ m50) = true := decide_eq_true (by omega)
        go_wp2_with fail
        refine (CLN.out _ HWz.out).mono ?_
        rintro e wq ⟨rfl, rfl⟩
        go_wp2_with fail
        refine (CSB.out _).mono ?_
        rintro e wq ⟨rfl, rfl⟩
        go_wp2_with fail
        refine (CST.out (we.setRow ga C50) BELz.out HWz.out).mono ?_
        rintro e wq ⟨rfl, hp⟩
        have HPP := Lib.hid (hp.from BELz.out); clear hp
        go_wp2_with fail
        go_ret
        exact ⟨rfl, _, HPP.out, .inl rfl⟩
      · have ds : decide (stoS a nb ≤ m50) = false := decide_eq_false hs
        have ds' : decide ((stoS a nb : Int) ≤ m50) = false := decide_eq_false (by omega)
        go_wp2_with fail
        refine (CLN.out _ HWz.out).mono ?_
        rintro e wq ⟨rfl, rfl⟩
        go_wp2_with fail
        refine (CSB.out _).mono ?_
        rintro e wq ⟨rfl, rfl⟩
        go_wp2_with (refine wpList_load_row rfl 65 (.tmp 11) rfl ga rfl 65 C50 (0, 0) _ ROWz.out Tryz.underlying65 rfl V50.out.2.2 ?_)
        refine (BLKz.out.write (we.setRow ga C50) B g sv bits last (Tw.refl _) HWz.out (by rw [HA.out]; omega) (fun W hW => HT.out W ((Tw.of_below BELz.out).trans hW))).mono ?_
        rintro e wq ⟨rfl, hp⟩
        have HPP := Lib.hid (hp.from BELz.out); clear hp
        go_wp2_with fail
        go_ret
        exact ⟨rfl, _, HPP.out, .inr (.inr rfl)⟩
    · have dd : decide (m50 < m47) = false := decide_eq_false hd
      have dd' : decide ((m50 : Int) < m47) = false := decide_eq_false (by omega)
      have ROWz := ROWA2
      have BELz := BELe
      have HWz : Hid (WriterAt we B g sv bits) := Lib.hid (HW.out.below BELz.out)
      have BLKz := Lib.hid (fixBlk HCW.out At nt ct hnt C47 we RAW47e.out)
      rw [HM47.out] at BLKz
      by_cases hs : stoS a nb ≤ m47
      · have ds : decide (stoS a nb ≤ m47) = true := decide_eq_true hs
        have ds' : decide ((stoS a nb : Int) ≤ m47) = true := decide_eq_true (by omega)
        go_wp2_with fail
        refine (CLN.out _ HWz.out).mono ?_
        rintro e wq ⟨rfl, rfl⟩
        go_wp2_with fail
        refine (CSB.out _).mono ?_
        rintro e wq ⟨rfl, rfl⟩
        go_wp2_with fail
        refine (CST.out we BELz.out HWz.out).mono ?_
        rintro e wq ⟨rfl, hp⟩
        have HPP := Lib.hid (hp.from BELz.out); clear hp
        go_wp2_with fail
        go_ret
        exact ⟨rfl, _, HPP.out, .inl rfl⟩
      · have ds : decide (stoS a nb ≤ m47) = false := decide_eq_false hs
        have ds' : decide ((stoS a nb : Int) ≤ m47) = false := decide_eq_false (by omega)
        go_wp2_with fail
        refine (CLN.out _ HWz.out).mono ?_
        rintro e wq ⟨rfl, rfl⟩
        go_wp2_with fail
        refine (CSB.out _).mono ?_
        rintro e wq ⟨rfl, rfl⟩
        go_wp2_with (refine wpList_load_row rfl 65 (.tmp 11) rfl ga rfl 65 C47 (0, 0) _ ROWz.out Tryz.underlying65 rfl V47.out.2.2 ?_)
        refine (BLKz.out.write we B g sv bits last (Tw.refl _) HWz.out (by rw [HA.out]; omega) (fun W hW => HT.out W ((Tw.of_below BELz.out).trans hW))).mono ?_
        rintro e wq ⟨rfl, hp⟩
        have HPP := Lib.hid (hp.from BELz.out); clear hp
        go_wp2_with fail
        go_ret
        exact ⟨rfl, _, HPP.out, .inr (.inl rfl)⟩
end Go.Proofs.YtkjhefjjacokjaaGreat
