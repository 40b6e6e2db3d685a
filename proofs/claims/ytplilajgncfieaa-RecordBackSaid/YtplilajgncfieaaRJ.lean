/-
  What a record's readers ask: right, saysNothing; the record with its name: named. Conditions: as number's.
-/
import Derived.Test.YtplilajgncfieaaRI
import Derived.Deep.MidRow
namespace Go.Proofs.Ytplilajgncfieaa
open Go.RowKit
set_option maxRecDepth 100000

/-- Are the numbers right that must be one told? -/
def rightS (x0 x1 x8 : Int) : Bool := (x0 == 0 || x0 == 8) && ((x1 == 0 || x1 == 8) && x8 == 0)
theorem zero_or (x : Int) : ((x == 0) = true ∧ (x == 0 || x == 8) = true) ∨ ((x == 0) = false ∧ (x == 8) = true ∧ (x == 0 || x == 8) = true) ∨ ((x == 0) = false ∧ (x == 8) = false ∧ (x == 0 || x == 8) = false) := by
  cases h : x == 0
  · cases h2 : x == 8
    · exact .inr (.inr ⟨rfl, rfl, rfl⟩)
    · exact .inr (.inl ⟨rfl, rfl, rfl⟩)
  · exact .inl ⟨rfl, rfl⟩
set_option maxHeartbeats 4000000 in
theorem right_any (x0 x1 : Int) (x2 x3 x4 : Nat) (x5 x6 x7 x8 : Int) (na : ByteArray) (of : Int) (w : World) :
    Calls Try.prog 34 #[.agg #[.int .i64 x0, .int .i64 x1, .int .u16 x3, .int .u16 x2, .int .u32 x4, .int .i64 x5, .int .i64 x6, .string na, .int .i64 of, .int .i64 x7, .int .i64 x8]] w fun e w' => e = .returned (.bool (rightS x0 x1 x8)) ∧ Below w.heap.size w w' := by
  have B0 := Lib.hid ((Below.refl w.heap.size w).alloc (Nat.le_refl _) (.cells (shC x0 x1 x2 x3 x4 x5 x6 x7 x8 na of) 62))
  simp only [shC] at B0
  unfold rightS
  obtain ⟨t, ht⟩ : ∃ t, (x8 == 0) = t := ⟨_, rfl⟩
  rw [ht]
  rcases zero_or x0 with ⟨h1, h2⟩ | ⟨h1, h1', h2⟩ | ⟨h1, h1', h2⟩ <;> rcases zero_or x1 with ⟨h3, h4⟩ | ⟨h3, h3', h4⟩ | ⟨h3, h3', h4⟩ <;> rw [h2, h4]
  all_goals
    clear h2 h4
    go_enter Try.func34, Try.ntmps34
    go_wp2_with fail
    go_ret
    exact ⟨rfl, B0.out⟩

/-- Is what is said of the data left to what stands behind them? -/
def nothS (x4 : Nat) (x5 x6 : Int) : Bool := (x4 : Int) == 0 && (x5 == 0 && x6 == 0)
set_option maxHeartbeats 4000000 in
theorem saysNothing_any (x0 x1 : Int) (x2 x3 x4 : Nat) (x5 x6 x7 x8 : Int) (na : ByteArray) (of : Int) (w : World) :
    Calls Try.prog 35 #[.agg #[.int .i64 x0, .int .i64 x1, .int .u16 x3, .int .u16 x2, .int .u32 x4, .int .i64 x5, .int .i64 x6, .string na, .int .i64 of, .int .i64 x7, .int .i64 x8]] w fun e w' => e = .returned (.bool (nothS x4 x5 x6)) ∧ Below w.heap.size w w' := by
  have B0 := Lib.hid ((Below.refl w.heap.size w).alloc (Nat.le_refl _) (.cells (shC x0 x1 x2 x3 x4 x5 x6 x7 x8 na of) 62))
  simp only [shC] at B0
  have A := Lib.hid (fun W An cN Bn hN => are_any 0 An cN Bn 2 [x5, x6] rfl (by omega) W hN)
  have hL : nothS x4 x5 x6 = ((x4 : Int) == 0 && [x5, x6].all (fun x => x == 0)) := by simp [nothS]
  rw [hL]
  clear hL
  generalize [x5, x6].all (fun x => x == 0) = r at *
  obtain ⟨t, ht⟩ : ∃ t, ((x4 : Int) == 0) = t := ⟨_, rfl⟩
  rw [ht]
  cases t
  · go_enter Try.func35, Try.ntmps35
    go_wp2_with fail
    go_ret
    exact ⟨rfl, B0.out⟩
  · go_enter Try.func35, Try.ntmps35
    go_wp2_with fail
    generalize hw0 : w.alloc _ = w0 at B0 ⊢
    have hg : w.heap.size + 1 = w0.heap.size := by rw [← hw0]; simp
    rw [hg]
    clear hw0
    have b0 := B0.out.alloc (w := w0) B0.out.size (.cells (iv [x5, x6]).toArray 3)
    refine (A.out _ _ _ _ (seen_ints (m := 2) (Whole.new w0 3 (iv [x5, x6]).toArray) rfl)).mono ?_
    rintro e w1 ⟨rfl, rfl⟩
    have B1 := Lib.hid b0
    clear b0 hg
    go_wp2_with fail
    go_ret
    exact ⟨rfl, B1.out⟩

theorem load_mid_yields {P : Program} (W : World) (g n : Nat) (ty : TypeId) (cs : List Value) (o : Oper) (a : Act) {x : Operand} (ho : o.op = .load ty x) (hx : a.eval x = .pointer (some ⟨g, n, none⟩)) (hg : W.rangeAt g n cs) {d : TypeDesc}
    (hu : P.underlying ty = some d) (hd : d.isRow = true) (hi : (P.info? ty).map (·.size) = some cs.length) :
    (execOp a.eval o).run P W = .ok (.value (.agg cs.toArray)) W := by
  unfold execOp
  simp only [ho, hx, Instr.loadAt, Instr.sureAddr, Sem.run_bind, Sem.run_pure, Result.andThen_ok, run_loadVar_mid W g n ty cs d hg hu hd hi]
theorem results_rec {fn : Func} {p u : Tmp} (h : fn.results = #[.cell p 27, .tmp u]) (tmps : Array Value) (w : World) (g : Nat) (r : Rec) (hp : tmps.getD p undef = .pointer (some ⟨g, 0, none⟩)) (hg : RecAt w g r) :
    (results fn tmps).run Try.prog w = .ok (.tuple #[.agg (recC r), tmps.getD u undef]) w := by
  have hp' : tmps[p]?.getD undef = .pointer (some ⟨g, 0, none⟩) := by simpa using hp
  simp [results, h, hp', asAddr, run_loadVar_row w g 27 27 (recC r) (0, 0) _ hg Try.underlying27 rfl (rec_size r)]
/-- A record of nothing. -/
def rec0 : Rec := ⟨0, 0, 0, 0, 0, 0, ⟨#[]⟩, 0⟩
/-- What a reader answers: the record, and whether its flags are 8; of nothing with an error. -/
def recRes (q : List Nat × Nat × Int) (x0 x1 : Int) (x2 x3 x4 : Nat) (x5 x6 of : Int) : Value :=
  if q.2.2 = 0 then .tuple #[.agg (recC ⟨x1, x3, x2, x4, x5, x6, strOf q.1, of⟩), .bool (x0 == 8)] else .tuple #[.agg (recC rec0), .bool false]
theorem sh_range {w : World} {g : Nat} {x0 x1 : Int} {x2 x3 x4 : Nat} {x5 x6 x7 x8 : Int} {na : ByteArray} {of : Int} (h : Whole w g 62 (shC x0 x1 x2 x3 x4 x5 x6 x7 x8 na of)) : w.rangeAt g 1 (recC ⟨x1, x3, x2, x4, x5, x6, na, of⟩).toList := by
  intro j v hv
  rw [h.cell]
  match j, hv with
  | 0, hv | 1, hv | 2, hv | 3, hv | 4, hv | 5, hv | 6, hv | 7, hv => simpa [recC, shC] using hv
  | j + 8, hv => simp [recC] at hv
theorem sh_cells {w : World} {g : Nat} {x0 x1 : Int} {x2 x3 x4 : Nat} {x5 x6 x7 x8 : Int} {na : ByteArray} {of : Int} (h : Whole w g 62 (shC x0 x1 x2 x3 x4 x5 x6 x7 x8 na of)) : w.cell? ⟨g, 0, none⟩ = some (.int .i64 x0) ∧ w.cell? ⟨g, 7, none⟩ = some (.string na) ∧ w.cell? ⟨g, 9, none⟩ = some (.int .i64 x7) := by
  refine ⟨?_, ?_, ?_⟩ <;> rw [h.cell] <;> rfl

set_option linter.unusedSimpArgs false in
set_option maxHeartbeats 4000000 in
theorem named_any (B g : Nat) (sv : Value) (bs : List Nat) (a : Nat) (err : Int) (x0 x1 : Int) (x2 x3 x4 : Nat) (x5 x6 x7 x8 : Int) (na : ByteArray) (of : Int) (m r : Bool) (hx7 : 0 ≤ x7) (w : World) (h : CursorAt w B g sv bs a err) (hb : bs.length ≤ 1000000) (ha : a ≤ bs.length) :
    Calls Try.prog 36 #[.agg #[.int .i64 x0, .int .i64 x1, .int .u16 x3, .int .u16 x2, .int .u32 x4, .int .i64 x5, .int .i64 x6, .string na, .int .i64 of, .int .i64 x7, .int .i64 x8], .pointer (some ⟨g, 0, none⟩), .bool m, .bool r] w fun e w' => e = .returned (recRes (nxt bs a (errP m r err) x7 true) x0 x1 x2 x3 x4 x5 x6 of) ∧ CurRes w B g sv bs (nxt bs a (errP m r err) x7 true).2 w' := by
  have P := Lib.hid (fun W hW => passes_any B g sv bs a err m r W hW)
  have T := Lib.hid (fun W hW => takeC_any B g sv bs a (errP m r err) x7 W hW hb ha)
  rw [decide_eq_true hx7] at T
  have E := Lib.hid (fun W a1 e1 (hW : CursorAt W B g sv bs a1 e1) => errC_any B g sv bs a1 e1 W hW)
  have hgl := h.2.1.lt
  have HC := Lib.hid h
  clear h hb ha hx7
  generalize errP m r err = e2 at *
  generalize nxt bs a e2 x7 true = q at *
  obtain ⟨l, a', e'⟩ := q
  have B1 := Lib.hid ((Below.refl w.heap.size w).alloc (Nat.le_refl _) (.cells (shC x0 x1 x2 x3 x4 x5 x6 x7 x8 na of) 62))
  have W1 := Lib.hid (Whole.new w 62 (shC x0 x1 x2 x3 x4 x5 x6 x7 x8 na of))
  have B2 := Lib.hid (B1.out.alloc B1.out.size (.cells (recC rec0) 27))
  have W2 := Lib.hid (Whole.new (w.alloc (.cells (shC x0 x1 x2 x3 x4 x5 x6 x7 x8 na of) 62)) 27 (recC rec0))
  have W12 := Lib.hid (W1.out.alloc (.cells (recC rec0) 27))
  clear B1 W1
  have hsz : (w.alloc (.cells (shC x0 x1 x2 x3 x4 x5 x6 x7 x8 na of) 62)).heap.size = w.heap.size + 1 := by simp
  rw [hsz] at W2
  simp only [shC, recC, rec0] at B2 W2 W12
  clear hsz
  by_cases he : e' = 0
  · subst he
    have hR : recRes (l, a', 0) x0 x1 x2 x3 x4 x5 x6 of = .tuple #[.agg (recC ⟨x1, x3, x2, x4, x5, x6, strOf l, of⟩), .bool (x0 == 8)] := by simp [recRes]
    rw [hR]
    clear hR
    go_enter Try.func36, Try.ntmps36
    go_wp2_with fail
    have C0 := Lib.hid (HC.out.bel B2.out)
    generalize (w.alloc _).alloc _ = w0 at C0 B2 W2 W12 ⊢
    refine (P.out w0 C0.out).mono ?_
    rintro e w1 ⟨rfl, c1, o1⟩
    have W2 := Lib.hid (W2.out.only o1 (by omega)); have W12 := Lib.hid (W12.out.only o1 (by omega)); have C1 := Lib.hid c1
    have O1 := Lib.hid ((Only.of_below B2.out (fun k => k = g)).trans o1)
    clear c1 o1
    obtain ⟨c0, c7, c9⟩ := sh_cells W12.out
    clear c0 c7
    go_wp2_with fail
    refine (T.out w1 C1.out).mono ?_
    rintro e w2 ⟨v, rfl, hv, c2, o2⟩
    have W2 := Lib.hid (W2.out.only o2 (by omega)); have W12 := Lib.hid (W12.out.only o2 (by omega)); have C2 := Lib.hid c2; have O2 := Lib.hid (O1.out.trans o2)
    obtain ⟨Av, cv, rfl, _, sv'⟩ := own_seen hv
    have SV := Lib.hid sv'
    clear hv sv' c2 o2 c9
    simp only at C2 SV
    go_wp2_with fail
    refine (E.out w2 _ _ C2.out).mono ?_
    rintro e w3 ⟨rfl, rfl⟩
    have cv := conv_seen SV.out
    obtain ⟨c0, c7, c9⟩ := sh_cells W12.out
    have f7 := W12.out.frozen 7
    go_upto_region 6 with fail
    clear c0 c7 c9 cv P T E
    obtain ⟨gb, hgb⟩ : ∃ gb, w.heap.size = gb := ⟨_, rfl⟩
    obtain ⟨gz, hgz⟩ : ∃ gz, gb + 1 = gz := ⟨_, rfl⟩
    rw [hgb] at W2 W12 ⊢
    rw [hgz] at W2 ⊢
    have hbz : gb ≠ gz := by omega
    have X2 : Hid (Whole (w2.setCell ⟨gb, 7, none⟩ (.string (strOf l))) gz 27 (recC rec0)) := Lib.hid (W2.out.far (p := ⟨gb, 7, none⟩) (Ne.symm hbz) _)
    have X12 : Hid (Whole (w2.setCell ⟨gb, 7, none⟩ (.string (strOf l))) gb 62 (shC x0 x1 x2 x3 x4 x5 x6 x7 x8 (strOf l) of)) := Lib.hid (by
      have h := W12.out.put 7 (.string (strOf l))
      simpa [shC] using h)
    have X3 : Hid (CursorAt (w2.setCell ⟨gb, 7, none⟩ (.string (strOf l))) B g sv bs a' 0) := Lib.hid (C2.out.put W12.out (by decide) (by decide) 7 _)
    have X4 : Hid (Only (fun k => k = g) w (w2.setCell ⟨gb, 7, none⟩ (.string (strOf l)))) := Lib.hid (O2.out.setCell (p := ⟨gb, 7, none⟩) (.inr (by simp only; omega)) _)
    clear W2 W12 C2 O2 f7
    generalize w2.setCell _ _ = w4 at *
    refine wp_region_held_drew (S := (fun W => Only (fun i => i = gz) w4 W)) (by kernel_rfl) (Only.refl _ _).drew (fun hHeld => ?_)
    have hHeld0 := hHeld
    generalize hwd : w4.drew = wd at *
    have ZD : Hid (Whole wd gz 27 (recC rec0)) := by rw [← hwd]; exact Lib.hid X2.out.drew
    have CD : Hid (CursorAt wd B g sv bs a' 0) := by rw [← hwd]; exact Lib.hid (X3.out.bel (Below.refl _ _).drew)
    have OD : Hid (Only (fun k => k = g) w wd) := by rw [← hwd]; exact Lib.hid X4.out.drew
    clear hwd hHeld0
    refine wpAnyH_take (i := 0) (oi := ⟨some 27, _, _, _, _, _⟩) (v := ?v0_1) rfl (by kernel_rfl) (by kernel_rfl) (by kernel_rfl) (fun _ _ _ h => h) (Or.inl ⟨by rfl, ?hy0_1⟩) (by assumption) ?rest0_1
    case hy0_1 => intro W hSW; go_simp; try rfl
    try simp only [Act.put, List.setIfInBounds_toArray, List.set_cons_zero, List.set_cons_succ]
    refine wpAnyH_take (i := 1) (oi := ⟨some 28, _, _, _, _, _⟩) (v := .agg (recC ⟨x1, x3, x2, x4, x5, x6, strOf l, of⟩)) rfl (by kernel_rfl) (by kernel_rfl) (by kernel_rfl) (fun _ _ _ h => h) (Or.inl ⟨by rfl, ?hy1_2⟩) (by assumption) ?rest1_2
    case hy1_2 => intro W hSW; exact load_mid_yields W gb 1 27 (recC ⟨x1, x3, x2, x4, x5, x6, strOf l, of⟩).toList _ _ rfl rfl (sh_range (X12.out.only hSW hbz)) Try.underlying27 rfl (rec_size ⟨x1, x3, x2, x4, x5, x6, strOf l, of⟩)
    try simp only [Act.put, List.setIfInBounds_toArray, List.set_cons_zero, List.set_cons_succ]
    refine wpAnyH_take (i := 2) (oi := ⟨some 29, _, _, _, _, _⟩) (v := ?v2_3) rfl (by kernel_rfl) (by kernel_rfl) (by kernel_rfl) (fun _ _ _ h => h) (Or.inl ⟨by rfl, ?hy2_3⟩) (by assumption) ?rest2_3
    case hy2_3 => intro W hSW; go_simp; try rfl
    try simp only [Act.put, List.setIfInBounds_toArray, List.set_cons_zero, List.set_cons_succ]
    refine wpAnyH_take (i := 3) (oi := ⟨some 30, _, _, _, _, _⟩) (v := ?v3_4) rfl (by kernel_rfl) (by kernel_rfl) (by kernel_rfl) (fun _ _ _ h => h) (Or.inl ⟨by rfl, ?hy3_4⟩) (by assumption) ?rest3_4
    case hy3_4 => intro W hSW; have k0 := (sh_cells (X12.out.only hSW hbz)).1; go_simp; try rfl
    try simp only [Act.put, List.setIfInBounds_toArray, List.set_cons_zero, List.set_cons_succ]
    refine wpAnyH_take (i := 4) (oi := ⟨some 31, _, _, _, _, _⟩) (v := ?v4_5) rfl (by kernel_rfl) (by kernel_rfl) (by kernel_rfl) (fun _ _ _ h => h) (Or.inl ⟨by rfl, ?hy4_5⟩) (by assumption) ?rest4_5
    case hy4_5 => intro W hSW; go_simp; try rfl
    try simp only [Act.put, List.setIfInBounds_toArray, List.set_cons_zero, List.set_cons_succ]
    refine wpAnyH_ready (rs := [5]) (by kernel_rfl) (by simp) ?_
    refine (AllReadyH.cons (o := ⟨none, _, _, _, _, _⟩) rfl (fun K hK => ?_) AllReadyH.nil)
    · refine step_store_row _ rfl 27 (.tmp 8) (.tmp 28) rfl gz (recC ⟨x1, x3, x2, x4, x5, x6, strOf l, of⟩) rfl rfl 27 (recC rec0) ZD.out (rec_size ⟨x1, x3, x2, x4, x5, x6, strOf l, of⟩) rfl (rec_one _) ?_
      refine hK.out _ _ ?_ (fun hHeld2 => ?_)
      · exact hHeld.trans (only_setRow _ _ _)
      clear hK K hHeld
      have hHeld := hHeld2; clear hHeld2
      try simp only [Act.put, List.setIfInBounds_toArray, List.set_cons_zero, List.set_cons_succ]
      have X5 : Hid (RecAt _ gz ⟨x1, x3, x2, x4, x5, x6, strOf l, of⟩) := Lib.hid (ZD.out.setRow (recC ⟨x1, x3, x2, x4, x5, x6, strOf l, of⟩))
      have X3' := Lib.hid (CD.out.row ZD.out (by decide) (by decide) (recC ⟨x1, x3, x2, x4, x5, x6, strOf l, of⟩))
      have X4' := Lib.hid (OD.out.rowNew (a := w) (g := gz) (by omega) (recC ⟨x1, x3, x2, x4, x5, x6, strOf l, of⟩))
      generalize wd.setRow gz (recC ⟨x1, x3, x2, x4, x5, x6, strOf l, of⟩) = y6 at *
      refine wpAnyH_take (i := 6) (oi := ⟨some 9, _, _, _, _, _⟩) (v := ?v6_7) rfl (by kernel_rfl) (by kernel_rfl) (by kernel_rfl) (fun _ _ _ h => h) (Or.inl ⟨by rfl, ?hy6_7⟩) (by assumption) ?rest6_7
      case hy6_7 => intro W hSW; go_simp; try rfl
      try simp only [Act.put, List.setIfInBounds_toArray, List.set_cons_zero, List.set_cons_succ]
      refine wpAnyH_done (by kernel_rfl) ?_ _
      go_wp2_with fail
      refine bodyPost_ret (results_rec (p := 8) (u := 9) rfl _ _ gz ⟨x1, x3, x2, x4, x5, x6, strOf l, of⟩ rfl X5.out) rfl ?_
      exact ⟨rfl, X3'.out, X4'.out⟩
  · have hR : recRes (l, a', e') x0 x1 x2 x3 x4 x5 x6 of = .tuple #[.agg (recC rec0), .bool false] := by simp [recRes, he]
    rw [hR]
    clear hR
    have hne : (e' != 0) = true := by simpa using he
    clear he
    go_enter Try.func36, Try.ntmps36
    go_wp2_with fail
    have C0 := Lib.hid (HC.out.bel B2.out)
    generalize (w.alloc _).alloc _ = w0 at C0 B2 W2 W12 ⊢
    refine (P.out w0 C0.out).mono ?_
    rintro e w1 ⟨rfl, c1, o1⟩
    have W2 := Lib.hid (W2.out.only o1 (by omega)); have W12 := Lib.hid (W12.out.only o1 (by omega)); have C1 := Lib.hid c1
    have O1 := Lib.hid ((Only.of_below B2.out (fun k => k = g)).trans o1)
    clear c1 o1
    obtain ⟨c0, c7, c9⟩ := sh_cells W12.out
    clear c0 c7
    go_wp2_with fail
    refine (T.out w1 C1.out).mono ?_
    rintro e w2 ⟨v, rfl, hv, c2, o2⟩
    have W2 := Lib.hid (W2.out.only o2 (by omega)); have C2 := Lib.hid c2; have O2 := Lib.hid (O1.out.trans o2)
    clear hv c2 o2 c9
    simp only at C2
    go_wp2_with fail
    refine (E.out w2 _ _ C2.out).mono ?_
    rintro e w3 ⟨rfl, rfl⟩
    obtain ⟨gz, hgz⟩ : ∃ gz, w.heap.size + 1 = gz := ⟨_, rfl⟩
    have hle : w.heap.size ≤ gz := by omega
    rw [hgz] at W2 ⊢
    clear hgz
    have X5 : Hid (RecAt _ gz rec0) := Lib.hid (W2.out.setRow (recC rec0))
    have X3 := Lib.hid (C2.out.row W2.out (by decide) (by decide) (recC rec0))
    have X4 := Lib.hid (O2.out.rowNew hle (recC rec0))
    go_wp2_with (refine wpList_store_row rfl 27 (.tmp 8) (.tmp 22) rfl gz (recC rec0) rfl rfl 27 (recC rec0) W2.out (rec_size rec0) rfl (rec_one rec0) ?_)
    generalize w2.setRow gz (recC rec0) = w5 at *
    go_wp2_with fail
    refine bodyPost_ret (results_rec (p := 8) (u := 9) rfl _ _ gz rec0 rfl X5.out) rfl ?_
    exact ⟨rfl, X3.out, X4.out⟩
end Go.Proofs.Ytplilajgncfieaa
