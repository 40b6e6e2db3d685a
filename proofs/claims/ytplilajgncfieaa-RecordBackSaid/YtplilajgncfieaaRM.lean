/-
  Records that a cursor reads: ReadBehind, ReadEnd. Conditions: the cursor stands as told, over at most a million bytes.
-/
import Derived.Test.YtplilajgncfieaaRL
namespace Go.Proofs.Ytplilajgncfieaa
open Go.RowKit
set_option maxRecDepth 100000

/-- The numbers of what stands behind data. -/
def BehIs (bs : List Nat) (a : Nat) (err : Int) (b0 : Int) (b1 : Nat) (b2 b3 : Int) (a' : Nat) (err' : Int) : Prop :=
  rdz bs [4, 4, 4, 4] a err = ([b0, (b1 : Int), b2, b3], a', err') ∧ b1 < 4294967296 ∧ a' ≤ bs.length
def behOf (b0 : Int) (b1 : Nat) (b2 b3 : Int) (e : Int) : Rec := if errP (b0 == 134695760) true e = 0 then ⟨0, 0, 0, b1, b2, b3, ⟨#[]⟩, 0⟩ else rec0
theorem beh_ex (bs : List Nat) (a : Nat) (err : Int) (ha : a ≤ bs.length) (h256 : ∀ x ∈ bs, x < 256) : ∃ b0 b1 b2 b3 a' err', BehIs bs a err b0 b1 b2 b3 a' err' := by
  have l1 := rdz_length bs [4, 4, 4, 4] a err
  have p1 := rdz_place bs [4, 4, 4, 4] a err ha
  have b1 := rdz_lt bs h256 [4, 4, 4, 4] a err
  obtain ⟨q1, hq1⟩ : ∃ q, rdz bs [4, 4, 4, 4] a err = q := ⟨_, rfl⟩
  rw [hq1] at l1 p1 b1
  obtain ⟨q1, a1, e1⟩ := q1
  obtain ⟨x0, x1, x2, x3, rfl⟩ := list4 l1
  obtain ⟨v4, g4, t4, u4⟩ := b1 1 4 rfl
  obtain rfl : x1 = v4 := by simpa using g4
  obtain ⟨x1, rfl⟩ := nat_of t4
  exact ⟨x0, x1, x2, x3, a1, e1, hq1, by simp at u4; omega, p1⟩

set_option linter.unusedSimpArgs false in
set_option maxHeartbeats 4000000 in
theorem readBehind_is (B g : Nat) (sv : Value) (bs : List Nat) (a : Nat) (err : Int) {b0 : Int} {b1 : Nat} {b2 b3 : Int} {a' : Nat} {err' : Int} (hL : BehIs bs a err b0 b1 b2 b3 a' err') (w : World) (h : CursorAt w B g sv bs a err) (hb : bs.length ≤ 1000000) (ha : a ≤ bs.length) (h256 : ∀ x ∈ bs, x < 256) :
    Calls Try.prog 20 #[.pointer (some ⟨g, 0, none⟩)] w fun e w' => e = .returned (.agg (recC (behOf b0 b1 b2 b3 err'))) ∧ CurRes w B g sv bs (a', errP (b0 == 134695760) true err') w' := by
  have N1 := Lib.hid (fun W hW => numbers_any B g sv bs a err 4 4 (.inr rfl) rfl 4 (by omega) W hW hb ha h256)
  have hq : rdz bs (List.replicate 4 4) a err = ([b0, (b1 : Int), b2, b3], a', err') := hL.1
  rw [hq] at N1
  have c4 := u32_wrap hL.2.1
  have HC := Lib.hid h
  have hgl := h.2.1.lt
  obtain ⟨mm, hmm⟩ : ∃ r, (b0 == 134695760) = r := ⟨_, rfl⟩
  have P := Lib.hid (fun W hW => passes_any B g sv bs a' err' mm true W hW)
  unfold behOf
  rw [hmm]
  clear hq hL h hb ha h256
  generalize errP mm true err' = e2 at *
  obtain ⟨RV, hRV⟩ : ∃ R, (if e2 = 0 then (⟨0, 0, 0, b1, b2, b3, ⟨#[]⟩, 0⟩ : Rec) else rec0) = R := ⟨_, rfl⟩
  rw [hRV]
  have HRV := Lib.hid hRV
  clear hRV
  go_enter Try.func20, Try.ntmps20
  go_wp2_with fail
  have C0 := Lib.hid (HC.out.bel ((Below.refl w.heap.size w).alloc (Nat.le_refl _) (.cells (recC rec0) 27)))
  have Z0 := Lib.hid (Whole.new w 27 (recC rec0))
  have O0 := Lib.hid (Only.of_below ((Below.refl w.heap.size w).alloc (Nat.le_refl _) (.cells (recC rec0) 27)) (fun i => i = g))
  simp only [recC, rec0] at C0 Z0 O0
  generalize w.alloc _ = w0 at C0 Z0 O0 ⊢
  obtain ⟨gz, hgz⟩ : ∃ gz, w.heap.size = gz := ⟨_, rfl⟩
  rw [hgz] at Z0 ⊢
  have hzg : gz ≠ g := by omega
  have hwz : w.heap.size ≤ gz := by omega
  have hzl := Z0.out.lt
  clear hgz hgl
  refine (N1.out w0 C0.out).mono ?_
  rintro e w1 ⟨gv, rfl, V1, hgv, d1, o1⟩
  have hvg : gv ≠ g := by have := C0.out.2.1.lt; omega
  have hz1 : ¬ (gv = gz) := by omega
  have C1 := Lib.hid d1; have Z1 := Lib.hid (Z0.out.only o1 hzg); have O1 := Lib.hid (O0.out.trans o1); have V1 := Lib.hid V1
  clear d1 o1 Z0 O0 C0 N1 hgv hzl
  simp only at C1
  obtain ⟨k0, k1, k2, k3⟩ := row4 V1.out
  clear k1 k2 k3
  go_wp2_with fail
  refine (P.out w1 C1.out).mono ?_
  rintro e w2 ⟨rfl, d2, o2⟩
  have C2 := Lib.hid d2; have Z2 := Lib.hid (Z1.out.only o2 hzg); have O2 := Lib.hid (O1.out.trans o2); have R13 := Lib.hid (V1.out.only o2 hvg)
  clear d2 o2 Z1 O1 C1 V1 P k0 hmm
  by_cases he : e2 = 0
  · subst he
    have hRV := HRV.out
    rw [if_pos rfl] at hRV
    subst hRV
    clear HRV
    go_upto_region 4 with fail
    generalize wq : w2 = w3 at *
    clear wq
    refine wp_region_held_drew (S := (fun W => Only (fun i => i = gz) w3 W)) (by kernel_rfl) (Only.refl _ _).drew (fun hHeld => ?_)
    have hHeld0 := hHeld
    generalize hwd : w3.drew = wd at *
    have ZD : Hid (Whole wd gz 27 (recC rec0)) := by rw [← hwd]; exact Lib.hid Z2.out.drew
    have CD : Hid (CursorAt wd B g sv bs a' 0) := by rw [← hwd]; exact Lib.hid (C2.out.bel (Below.refl _ _).drew)
    have OD : Hid (Only (fun k => k = g) w wd) := by rw [← hwd]; exact Lib.hid O2.out.drew
    clear hwd hHeld0
    refine wpAnyH_take (i := 0) (oi := ⟨some 14, _, _, _, _, _⟩) (v := ?v0_1) rfl (by kernel_rfl) (by kernel_rfl) (by kernel_rfl) (fun _ _ _ h => h) (Or.inl ⟨by rfl, ?hy0_1⟩) (by assumption) ?rest0_1
    case hy0_1 => intro W hSW; go_simp; try rfl
    try simp only [Act.put, List.setIfInBounds_toArray, List.set_cons_zero, List.set_cons_succ]
    refine wpAnyH_take (i := 1) (oi := ⟨some 15, _, _, _, _, _⟩) (v := ?v1_2) rfl (by kernel_rfl) (by kernel_rfl) (by kernel_rfl) (fun _ _ _ h => h) (Or.inl ⟨by rfl, ?hy1_2⟩) (by assumption) ?rest1_2
    case hy1_2 => intro W hSW; go_simp; try rfl
    try simp only [Act.put, List.setIfInBounds_toArray, List.set_cons_zero, List.set_cons_succ]
    refine wpAnyH_take (i := 2) (oi := ⟨some 16, _, _, _, _, _⟩) (v := ?v2_3) rfl (by kernel_rfl) (by kernel_rfl) (by kernel_rfl) (fun _ _ _ h => h) (Or.inl ⟨by rfl, ?hy2_3⟩) (by assumption) ?rest2_3
    case hy2_3 => intro W hSW; obtain ⟨k0, k1, k2, k3⟩ := row4 (R13.out.only hSW hz1); go_simp; try rfl
    try simp only [Act.put, List.setIfInBounds_toArray, List.set_cons_zero, List.set_cons_succ]
    refine wpAnyH_take (i := 3) (oi := ⟨some 17, _, _, _, _, _⟩) (v := ?v3_4) rfl (by kernel_rfl) (by kernel_rfl) (by kernel_rfl) (fun _ _ _ h => h) (Or.inl ⟨by rfl, ?hy3_4⟩) (by assumption) ?rest3_4
    case hy3_4 => intro W hSW; go_simp; try rfl
    try simp only [Act.put, List.setIfInBounds_toArray, List.set_cons_zero, List.set_cons_succ]
    refine wpAnyH_take (i := 4) (oi := ⟨some 18, _, _, _, _, _⟩) (v := ?v4_5) rfl (by kernel_rfl) (by kernel_rfl) (by kernel_rfl) (fun _ _ _ h => h) (Or.inl ⟨by rfl, ?hy4_5⟩) (by assumption) ?rest4_5
    case hy4_5 => intro W hSW; go_simp; try rfl
    try simp only [Act.put, List.setIfInBounds_toArray, List.set_cons_zero, List.set_cons_succ]
    refine wpAnyH_take (i := 5) (oi := ⟨some 19, _, _, _, _, _⟩) (v := ?v5_6) rfl (by kernel_rfl) (by kernel_rfl) (by kernel_rfl) (fun _ _ _ h => h) (Or.inl ⟨by rfl, ?hy5_6⟩) (by assumption) ?rest5_6
    case hy5_6 => intro W hSW; go_simp; try rfl
    try simp only [Act.put, List.setIfInBounds_toArray, List.set_cons_zero, List.set_cons_succ]
    refine wpAnyH_take (i := 6) (oi := ⟨some 20, _, _, _, _, _⟩) (v := ?v6_7) rfl (by kernel_rfl) (by kernel_rfl) (by kernel_rfl) (fun _ _ _ h => h) (Or.inl ⟨by rfl, ?hy6_7⟩) (by assumption) ?rest6_7
    case hy6_7 => intro W hSW; obtain ⟨k0, k1, k2, k3⟩ := row4 (R13.out.only hSW hz1); go_simp; try rfl
    try simp only [Act.put, List.setIfInBounds_toArray, List.set_cons_zero, List.set_cons_succ]
    refine wpAnyH_take (i := 7) (oi := ⟨some 21, _, _, _, _, _⟩) (v := ?v7_8) rfl (by kernel_rfl) (by kernel_rfl) (by kernel_rfl) (fun _ _ _ h => h) (Or.inl ⟨by rfl, ?hy7_8⟩) (by assumption) ?rest7_8
    case hy7_8 => intro W hSW; go_simp; try rfl
    try simp only [Act.put, List.setIfInBounds_toArray, List.set_cons_zero, List.set_cons_succ]
    refine wpAnyH_take (i := 8) (oi := ⟨some 22, _, _, _, _, _⟩) (v := ?v8_9) rfl (by kernel_rfl) (by kernel_rfl) (by kernel_rfl) (fun _ _ _ h => h) (Or.inl ⟨by rfl, ?hy8_9⟩) (by assumption) ?rest8_9
    case hy8_9 => intro W hSW; go_simp; try rfl
    try simp only [Act.put, List.setIfInBounds_toArray, List.set_cons_zero, List.set_cons_succ]
    refine wpAnyH_take (i := 9) (oi := ⟨some 23, _, _, _, _, _⟩) (v := ?v9_10) rfl (by kernel_rfl) (by kernel_rfl) (by kernel_rfl) (fun _ _ _ h => h) (Or.inl ⟨by rfl, ?hy9_10⟩) (by assumption) ?rest9_10
    case hy9_10 => intro W hSW; obtain ⟨k0, k1, k2, k3⟩ := row4 (R13.out.only hSW hz1); go_simp; try rfl
    try simp only [Act.put, List.setIfInBounds_toArray, List.set_cons_zero, List.set_cons_succ]
    refine wpAnyH_take (i := 10) (oi := ⟨some 24, _, _, _, _, _⟩) (v := ?v10_11) rfl (by kernel_rfl) (by kernel_rfl) (by kernel_rfl) (fun _ _ _ h => h) (Or.inl ⟨by rfl, ?hy10_11⟩) (by assumption) ?rest10_11
    case hy10_11 => intro W hSW; go_simp; try rfl
    try simp only [Act.put, List.setIfInBounds_toArray, List.set_cons_zero, List.set_cons_succ]
    refine wpAnyH_ready (rs := [11]) (by kernel_rfl) (by simp) ?_
    refine (AllReadyH.cons (o := ⟨none, _, _, _, _, _⟩) rfl (fun K hK => ?_) AllReadyH.nil)
    · refine step_store_row _ rfl 27 (.tmp 2) (.tmp 24) rfl gz (recC ⟨0, 0, 0, b1, b2, b3, ⟨#[]⟩, 0⟩) rfl rfl 27 (recC rec0) ZD.out (rec_size ⟨0, 0, 0, b1, b2, b3, ⟨#[]⟩, 0⟩) rfl (rec_one _) ?_
      refine hK.out _ _ ?_ (fun hHeld2 => ?_)
      · exact hHeld.trans (only_setRow _ _ _)
      clear hK K hHeld
      have hHeld := hHeld2; clear hHeld2
      try simp only [Act.put, List.setIfInBounds_toArray, List.set_cons_zero, List.set_cons_succ]
      have X5 : Hid (RecAt _ gz ⟨0, 0, 0, b1, b2, b3, ⟨#[]⟩, 0⟩) := Lib.hid (ZD.out.setRow (recC ⟨0, 0, 0, b1, b2, b3, ⟨#[]⟩, 0⟩))
      have X3 := Lib.hid (CD.out.row ZD.out (by decide) (by decide) (recC ⟨0, 0, 0, b1, b2, b3, ⟨#[]⟩, 0⟩))
      have X4 := Lib.hid (OD.out.rowNew (a := w) (g := gz) hwz (recC ⟨0, 0, 0, b1, b2, b3, ⟨#[]⟩, 0⟩))
      generalize wd.setRow gz (recC ⟨0, 0, 0, b1, b2, b3, ⟨#[]⟩, 0⟩) = y12 at *
      refine wpAnyH_done (by kernel_rfl) ?_ _
      go_wp2_with fail
      refine bodyPost_ret (v := .agg (recC ⟨0, 0, 0, b1, b2, b3, ⟨#[]⟩, 0⟩)) (results_cell_row (p := 2) (ty := 27) rfl _ _ gz 27 (recC ⟨0, 0, 0, b1, b2, b3, ⟨#[]⟩, 0⟩) (0, 0) _ rfl X5.out Try.underlying27 rfl (rec_size ⟨0, 0, 0, b1, b2, b3, ⟨#[]⟩, 0⟩)) rfl ?_
      exact ⟨rfl, X3.out, X4.out⟩
  · have hRV := HRV.out
    rw [if_neg he] at hRV
    subst hRV
    clear HRV
    have hb : (e2 == 0) = false := by simpa using he
    clear he
    have X5 : Hid (RecAt _ gz rec0) := Lib.hid (Z2.out.setRow (recC rec0))
    have X3 := Lib.hid (C2.out.row Z2.out (by decide) (by decide) (recC rec0))
    have X4 := Lib.hid (O2.out.rowNew hwz (recC rec0))
    go_wp2_with (refine wpList_store_row rfl 27 (.tmp 2) (.tmp 13) rfl gz (recC rec0) rfl rfl 27 (recC rec0) Z2.out (rec_size rec0) rfl (rec_one rec0) ?_)
    refine bodyPost_ret (v := .agg (recC rec0)) (results_cell_row (p := 2) (ty := 27) rfl _ _ gz 27 (recC rec0) (0, 0) _ rfl X5.out Try.underlying27 rfl (rec_size rec0)) rfl ?_
    exact ⟨rfl, X3.out, X4.out⟩

/-- The numbers of the end. -/
def szE : List Nat := 4 :: ([2, 2, 2, 2] ++ ([4, 4] ++ [2]))
def EndIs (bs : List Nat) (a : Nat) (err : Int) (m z0 z1 z2 z3 p0 p1 l : Int) (a' : Nat) (err' : Int) : Prop :=
  rdz bs szE a err = ([m, z0, z1, z2, z3, p0, p1, l], a', err') ∧ a' ≤ bs.length
def endR (z0 z1 z2 z3 l : Int) : Bool := [z0, z1, l].all (fun x => x == 0) && [z3].all (fun x => x == z2)
def endE (m z0 z1 z2 z3 l e : Int) : Int := errP (m == 101010256) (endR z0 z1 z2 z3 l) e
def endV (z2 p0 p1 e : Int) : Value := if e = 0 then .tuple #[.int .i64 z2, .int .i64 p0, .int .i64 p1] else .tuple #[.int .i64 0, .int .i64 0, .int .i64 0]
theorem list8 {l : List Int} (h : l.length = 8) : ∃ a b c d e f g i, l = [a, b, c, d, e, f, g, i] := by
  match l, h with
  | [a, b, c, d, e, f, g, i], _ => exact ⟨a, b, c, d, e, f, g, i, rfl⟩
theorem end_ex (bs : List Nat) (a : Nat) (err : Int) (ha : a ≤ bs.length) : ∃ m z0 z1 z2 z3 p0 p1 l a' err', EndIs bs a err m z0 z1 z2 z3 p0 p1 l a' err' := by
  have l1 := rdz_length bs szE a err
  have p1 := rdz_place bs szE a err ha
  obtain ⟨q1, hq1⟩ : ∃ q, rdz bs szE a err = q := ⟨_, rfl⟩
  rw [hq1] at l1 p1
  obtain ⟨q1, a1, e1⟩ := q1
  obtain ⟨x0, x1, x2, x3, x4, x5, x6, x7, rfl⟩ := list8 l1
  exact ⟨x0, x1, x2, x3, x4, x5, x6, x7, a1, e1, hq1, p1⟩

set_option linter.unusedSimpArgs false in
set_option maxHeartbeats 4000000 in
theorem readEnd_is (B g : Nat) (sv : Value) (bs : List Nat) (a : Nat) (err : Int) {m z0 z1 z2 z3 p0 p1 l : Int} {a' : Nat} {err' : Int} (hL : EndIs bs a err m z0 z1 z2 z3 p0 p1 l a' err') (w : World) (h : CursorAt w B g sv bs a err) (hb : bs.length ≤ 1000000) (ha : a ≤ bs.length) (h256 : ∀ x ∈ bs, x < 256) :
    Calls Try.prog 22 #[.pointer (some ⟨g, 0, none⟩)] w fun e w' => e = .returned (endV z2 p0 p1 (endE m z0 z1 z2 z3 l err')) ∧ CurRes w B g sv bs (a', endE m z0 z1 z2 z3 l err') w' := by
  have N1 := Lib.hid (fun W hW => number_any B g sv bs a err 4 4 (.inr rfl) rfl W hW hb ha h256)
  have p1' := rd1_place bs 4 a err ha
  obtain ⟨q1, hq1⟩ : ∃ q, rd1 bs 4 a err = q := ⟨_, rfl⟩
  rw [hq1] at p1' N1
  obtain ⟨m', a1, e1⟩ := q1
  simp only at p1' N1
  have N2 := Lib.hid (fun W hW => numbers_any B g sv bs a1 e1 2 2 (.inl rfl) rfl 4 (by omega) W hW hb p1' h256)
  have l2 := rdz_length bs (List.replicate 4 2) a1 e1
  have p2' := rdz_place bs (List.replicate 4 2) a1 e1 p1'
  obtain ⟨q2, hq2⟩ : ∃ q, rdz bs (List.replicate 4 2) a1 e1 = q := ⟨_, rfl⟩
  rw [hq2] at p2' N2 l2
  obtain ⟨q2, a2, e2⟩ := q2
  obtain ⟨z0', z1', z2', z3', rfl⟩ := list4 l2
  simp only at p2' N2
  have N3 := Lib.hid (fun W hW => numbers_any B g sv bs a2 e2 4 4 (.inr rfl) rfl 2 (by omega) W hW hb p2' h256)
  have l3 := rdz_length bs (List.replicate 2 4) a2 e2
  have p3' := rdz_place bs (List.replicate 2 4) a2 e2 p2'
  obtain ⟨q3, hq3⟩ : ∃ q, rdz bs (List.replicate 2 4) a2 e2 = q := ⟨_, rfl⟩
  rw [hq3] at p3' N3 l3
  obtain ⟨q3, a3, e3⟩ := q3
  obtain ⟨p0', p1'', rfl⟩ := list2 l3
  simp only at p3' N3
  have N4 := Lib.hid (fun W hW => number_any B g sv bs a3 e3 2 2 (.inl rfl) rfl W hW hb p3' h256)
  obtain ⟨q4, hq4⟩ : ∃ q, rd1 bs 2 a3 e3 = q := ⟨_, rfl⟩
  rw [hq4] at N4
  obtain ⟨l', a4, e4⟩ := q4
  simp only at N4
  have hA : rdz bs szE a err = ([m', z0', z1', z2', z3', p0', p1'', l'], a4, e4) := by
    have h1 : rdz bs szE a err = (m' :: (rdz bs ([2, 2, 2, 2] ++ ([4, 4] ++ [2])) a1 e1).1, (rdz bs ([2, 2, 2, 2] ++ ([4, 4] ++ [2])) a1 e1).2) := by
      show rdz bs (4 :: ([2, 2, 2, 2] ++ ([4, 4] ++ [2]))) a err = _
      simp only [rdz, hq1]
    have h2 : rdz bs [2, 2, 2, 2] a1 e1 = ([z0', z1', z2', z3'], a2, e2) := hq2
    have h3 : rdz bs [4, 4] a2 e2 = ([p0', p1''], a3, e3) := hq3
    have h4 : rdz bs [2] a3 e3 = ([l'], a4, e4) := by simp only [rdz, hq4]
    rw [h1, rdz_append, h2]
    simp only
    rw [rdz_append, h3]
    simp only
    rw [h4]
    rfl
  have hh := hA.symm.trans hL.1
  simp only [Prod.mk.injEq, List.cons.injEq, and_true] at hh
  obtain ⟨⟨rfl, rfl, rfl, rfl, rfl, rfl, rfl, rfl⟩, rfl, rfl⟩ := hh
  have A1 := Lib.hid (fun W An cN Bn hN => are_any 0 An cN Bn 3 [z0', z1', l'] rfl (by omega) W hN)
  have A2 := Lib.hid (fun W An cN Bn hN => are_any z2' An cN Bn 1 [z3'] rfl (by omega) W hN)
  have P := Lib.hid (fun W (mm rr : Bool) hW => passes_any B g sv bs a4 e4 mm rr W hW)
  have HC := Lib.hid h
  clear hA hL hq1 hq2 hq3 hq4 l2 l3 p1' p2' p3' h hb ha h256
  unfold endE endR
  obtain ⟨r1, hr1⟩ : ∃ r, [z0', z1', l'].all (fun x => x == 0) = r := ⟨_, rfl⟩
  obtain ⟨r2, hr2⟩ : ∃ r, [z3'].all (fun x => x == z2') = r := ⟨_, rfl⟩
  rw [hr1] at A1 ⊢
  rw [hr2] at A2 ⊢
  clear hr1 hr2
  obtain ⟨mm, hmm⟩ : ∃ r, (m' == 101010256) = r := ⟨_, rfl⟩
  rw [hmm]
  obtain ⟨rr, hrr⟩ : ∃ r, (r1 && r2) = r := ⟨_, rfl⟩
  rw [hrr]
  have P := Lib.hid (fun W hW => P.out W mm rr hW)
  generalize errP mm rr e4 = er at *
  obtain ⟨RV, hRV⟩ : ∃ R, endV z2' p0' p1'' er = R := ⟨_, rfl⟩
  rw [hRV]
  have HRV := Lib.hid hRV
  clear hRV
  go_enter Try.func22, Try.ntmps22
  go_wp2_with fail
  refine (N1.out w HC.out).mono ?_
  rintro e w1 ⟨rfl, d1, o1⟩
  have C1 := Lib.hid d1; have O1 := Lib.hid o1
  clear d1 o1 N1
  go_wp2_with fail
  refine (N2.out w1 C1.out).mono ?_
  rintro e w2 ⟨gv, rfl, V2, hgv, d2, o2⟩
  have hvg : gv ≠ g := by have := C1.out.2.1.lt; omega
  have C2 := Lib.hid d2; have O2 := Lib.hid (O1.out.trans o2); have V2 := Lib.hid V2
  clear d2 o2 O1 C1 N2 hgv
  go_wp2_with fail
  refine (N3.out w2 C2.out).mono ?_
  rintro e w3 ⟨gp, rfl, K3, hgp, d3, o3⟩
  have hpg : gp ≠ g := by have := C2.out.2.1.lt; omega
  have C3 := Lib.hid d3; have O3 := Lib.hid (O2.out.trans o3); have V3 := Lib.hid (V2.out.only o3 hvg); have K3 := Lib.hid K3
  clear d3 o3 O2 C2 V2 N3 hgp
  go_wp2_with fail
  refine (N4.out w3 C3.out).mono ?_
  rintro e w4 ⟨rfl, d4, o4⟩
  have C4 := Lib.hid d4; have O4 := Lib.hid (O3.out.trans o4); have V4 := Lib.hid (V3.out.only o4 hvg); have K4 := Lib.hid (K3.out.only o4 hpg)
  clear d4 o4 O3 C3 V3 K3 N4
  simp only at C4
  obtain ⟨k0, k1, k2, k3⟩ := row4 V4.out
  clear k0 k1 k3
  go_upto_region 3 with fail
  clear k2
  go_cut [10] (fun s10 wx => s10 = .bool rr ∧ Hid (Below w4.heap.size w4 wx))
  case first =>
    cases r1
    · obtain rfl : false = rr := by simpa using hrr
      refine wp_region_held_drew (S := (fun W => Below w4.heap.size w4 W)) (by kernel_rfl) (Below.refl _ _).drew (fun hHeld => ?_)
      have hHeld0 := hHeld
      generalize hwd : w4.drew = wd at *
      clear hwd hHeld0
      refine wpAnyH_take (i := 0) (oi := ⟨some 22, _, _, _, _, _⟩) (v := ?va0_1) rfl (by kernel_rfl) (by kernel_rfl) (by kernel_rfl) (fun _ _ _ h => h) (Or.inl ⟨by rfl, ?hya0_1⟩) (by assumption) ?resta0_1
      case hya0_1 => intro W hSW; go_simp; try rfl
      try simp only [Act.put, List.setIfInBounds_toArray, List.set_cons_zero, List.set_cons_succ]
      refine wpAnyH_take (i := 1) (oi := ⟨some 23, _, _, _, _, _⟩) (v := ?va1_2) rfl (by kernel_rfl) (by kernel_rfl) (by kernel_rfl) (fun _ _ _ h => h) (Or.inl ⟨by rfl, ?hya1_2⟩) (by assumption) ?resta1_2
      case hya1_2 => intro W hSW; go_simp; try rfl
      try simp only [Act.put, List.setIfInBounds_toArray, List.set_cons_zero, List.set_cons_succ]
      refine wpAnyH_take (i := 2) (oi := ⟨some 24, _, _, _, _, _⟩) (v := ?va2_3) rfl (by kernel_rfl) (by kernel_rfl) (by kernel_rfl) (fun _ _ _ h => h) (Or.inl ⟨by rfl, ?hya2_3⟩) (by assumption) ?resta2_3
      case hya2_3 => intro W hSW; obtain ⟨k0, k1, k2, k3⟩ := row4 (Whole.bel V4.out hSW); go_simp; try rfl
      try simp only [Act.put, List.setIfInBounds_toArray, List.set_cons_zero, List.set_cons_succ]
      refine wpAnyH_take (i := 3) (oi := ⟨some 25, _, _, _, _, _⟩) (v := ?va3_4) rfl (by kernel_rfl) (by kernel_rfl) (by kernel_rfl) (fun _ _ _ h => h) (Or.inl ⟨by rfl, ?hya3_4⟩) (by assumption) ?resta3_4
      case hya3_4 => intro W hSW; go_simp; try rfl
      try simp only [Act.put, List.setIfInBounds_toArray, List.set_cons_zero, List.set_cons_succ]
      refine wpAnyH_take (i := 4) (oi := ⟨some 26, _, _, _, _, _⟩) (v := ?va4_5) rfl (by kernel_rfl) (by kernel_rfl) (by kernel_rfl) (fun _ _ _ h => h) (Or.inl ⟨by rfl, ?hya4_5⟩) (by assumption) ?resta4_5
      case hya4_5 => intro W hSW; go_simp; try rfl
      try simp only [Act.put, List.setIfInBounds_toArray, List.set_cons_zero, List.set_cons_succ]
      refine wpAnyH_take (i := 5) (oi := ⟨some 27, _, _, _, _, _⟩) (v := ?va5_6) rfl (by kernel_rfl) (by kernel_rfl) (by kernel_rfl) (fun _ _ _ h => h) (Or.inl ⟨by rfl, ?hya5_6⟩) (by assumption) ?resta5_6
      case hya5_6 => intro W hSW; obtain ⟨k0, k1, k2, k3⟩ := row4 (Whole.bel V4.out hSW); go_simp; try rfl
      try simp only [Act.put, List.setIfInBounds_toArray, List.set_cons_zero, List.set_cons_succ]
      refine wpAnyH_take (i := 6) (oi := ⟨some 28, _, _, _, _, _⟩) (v := ?va6_7) rfl (by kernel_rfl) (by kernel_rfl) (by kernel_rfl) (fun _ _ _ h => h) (Or.inl ⟨by rfl, ?hya6_7⟩) (by assumption) ?resta6_7
      case hya6_7 => intro W hSW; go_simp; try rfl
      try simp only [Act.put, List.setIfInBounds_toArray, List.set_cons_zero, List.set_cons_succ]
      refine wpAnyH_ready (rs := [7]) (by kernel_rfl) (by simp) ?_
      refine (AllReadyH.cons (o := ⟨some 29, _, _, _, _, _⟩) rfl (fun K hK => ?_) AllReadyH.nil)
      · go_simp
        have NW : Whole (wd.alloc (.cells #[Value.int IntKind.i64 z0', Value.int IntKind.i64 z1', Value.int IntKind.i64 l'] 3)) wd.heap.size 3 (iv [z0', z1', l']).toArray := Whole.new wd 3 _
        have hb : Below wd.heap.size wd (wd.alloc (.cells #[Value.int IntKind.i64 z0', Value.int IntKind.i64 z1', Value.int IntKind.i64 l'] 3)) := (Below.refl _ _).alloc (Nat.le_refl _) _
        generalize wd.alloc _ = y8 at *
        obtain ⟨gN_8, hgN_8⟩ : ∃ g, wd.heap.size = g := ⟨_, rfl⟩
        rw [hgN_8] at NW hb ⊢
        rw [← hgN_8] at hb
        have N_8 := Lib.hid NW
        refine hK.out _ _ ?_ (fun hHeld2 => ?_)
        · exact bel_after hHeld (Nat.le_refl _) hb
        clear hK K hHeld
        have hHeld := hHeld2; clear hHeld2
        try simp only [Act.put, List.setIfInBounds_toArray, List.set_cons_zero, List.set_cons_succ]
        clear hb
        clear NW
        refine wpAnyH_ready (rs := [8]) (by kernel_rfl) (by simp) ?_
        refine (AllReadyH.cons (o := ⟨some 30, _, _, _, _, _⟩) rfl (fun K hK => ?_) AllReadyH.nil)
        · go_simp
          refine (A1.out y8 _ _ _ (seen_ints N_8.out rfl)).mono ?_
          rintro e _ ⟨rfl, rfl⟩
          have hb := Below.refl y8.heap.size y8
          have N_9 := Lib.hid (Whole.bel N_8.out hb)
          refine hK.out _ _ ?_ (fun hHeld2 => ?_)
          · exact bel_after hHeld (Nat.le_refl _) hb
          clear hK K hHeld
          have hHeld := hHeld2; clear hHeld2
          try simp only [Act.put, List.setIfInBounds_toArray, List.set_cons_zero, List.set_cons_succ]
          clear hb
          try clear N_8
          refine wpAnyH_take (i := 9) (oi := ⟨some 31, _, _, _, _, _⟩) (v := ?va9_10) rfl (by kernel_rfl) (by kernel_rfl) (by kernel_rfl) (fun _ _ _ h => h) (Or.inl ⟨by rfl, ?hya9_10⟩) (by assumption) ?resta9_10
          case hya9_10 => intro W hSW; go_simp; try rfl
          try simp only [Act.put, List.setIfInBounds_toArray, List.set_cons_zero, List.set_cons_succ]
          refine wpAnyH_take (i := 10) (oi := ⟨some 32, _, _, _, _, _⟩) (v := undef) rfl (by kernel_rfl) (by kernel_rfl) (by kernel_rfl) (fun _ _ _ h => h) (Or.inr ⟨by rfl, rfl⟩) (by assumption) ?resta10_11
          try simp only [Act.put, List.setIfInBounds_toArray, List.set_cons_zero, List.set_cons_succ]
          refine wpAnyH_take (i := 11) (oi := ⟨some 33, _, _, _, _, _⟩) (v := undef) rfl (by kernel_rfl) (by kernel_rfl) (by kernel_rfl) (fun _ _ _ h => h) (Or.inr ⟨by rfl, rfl⟩) (by assumption) ?resta11_12
          try simp only [Act.put, List.setIfInBounds_toArray, List.set_cons_zero, List.set_cons_succ]
          refine wpAnyH_take (i := 12) (oi := ⟨some 34, _, _, _, _, _⟩) (v := undef) rfl (by kernel_rfl) (by kernel_rfl) (by kernel_rfl) (fun _ _ _ h => h) (Or.inr ⟨by rfl, rfl⟩) (by assumption) ?resta12_13
          try simp only [Act.put, List.setIfInBounds_toArray, List.set_cons_zero, List.set_cons_succ]
          refine wpAnyH_take (i := 13) (oi := ⟨some 35, _, _, _, _, _⟩) (v := undef) rfl (by kernel_rfl) (by kernel_rfl) (by kernel_rfl) (fun _ _ _ h => h) (Or.inr ⟨by rfl, rfl⟩) (by assumption) ?resta13_14
          try simp only [Act.put, List.setIfInBounds_toArray, List.set_cons_zero, List.set_cons_succ]
          refine wpAnyH_take (i := 14) (oi := ⟨some 36, _, _, _, _, _⟩) (v := undef) rfl (by kernel_rfl) (by kernel_rfl) (by kernel_rfl) (fun _ _ _ h => h) (Or.inr ⟨by rfl, rfl⟩) (by assumption) ?resta14_15
          try simp only [Act.put, List.setIfInBounds_toArray, List.set_cons_zero, List.set_cons_succ]
          refine wpAnyH_take (i := 15) (oi := ⟨some 37, _, _, _, _, _⟩) (v := undef) rfl (by kernel_rfl) (by kernel_rfl) (by kernel_rfl) (fun _ _ _ h => h) (Or.inr ⟨by rfl, rfl⟩) (by assumption) ?resta15_16
          try simp only [Act.put, List.setIfInBounds_toArray, List.set_cons_zero, List.set_cons_succ]
          refine wpAnyH_take (i := 16) (oi := ⟨some 38, _, _, _, _, _⟩) (v := ?va16_17) rfl (by kernel_rfl) (by kernel_rfl) (by kernel_rfl) (fun _ _ _ h => h) (Or.inl ⟨by rfl, ?hya16_17⟩) (by assumption) ?resta16_17
          case hya16_17 => intro W hSW; go_simp; try rfl
          try simp only [Act.put, List.setIfInBounds_toArray, List.set_cons_zero, List.set_cons_succ]
          refine wpAnyH_take (i := 17) (oi := ⟨some 10, _, _, _, _, _⟩) (v := ?va17_18) rfl (by kernel_rfl) (by kernel_rfl) (by kernel_rfl) (fun _ _ _ h => h) (Or.inl ⟨by rfl, ?hya17_18⟩) (by assumption) ?resta17_18
          case hya17_18 => intro W hSW; go_simp; try rfl
          try simp only [Act.put, List.setIfInBounds_toArray, List.set_cons_zero, List.set_cons_succ]
          refine wpAnyH_done (by kernel_rfl) ?_ _
          go_wp2_with fail
          go_meet
          case rel => exact ⟨rfl, Lib.hid hHeld⟩
    · obtain rfl : r2 = rr := by simpa using hrr
      refine wp_region_held_drew (S := (fun W => Below w4.heap.size w4 W)) (by kernel_rfl) (Below.refl _ _).drew (fun hHeld => ?_)
      have hHeld0 := hHeld
      generalize hwd : w4.drew = wd at *
      clear hwd hHeld0
      refine wpAnyH_take (i := 0) (oi := ⟨some 22, _, _, _, _, _⟩) (v := ?vb0_1) rfl (by kernel_rfl) (by kernel_rfl) (by kernel_rfl) (fun _ _ _ h => h) (Or.inl ⟨by rfl, ?hyb0_1⟩) (by assumption) ?restb0_1
      case hyb0_1 => intro W hSW; go_simp; try rfl
      try simp only [Act.put, List.setIfInBounds_toArray, List.set_cons_zero, List.set_cons_succ]
      refine wpAnyH_take (i := 1) (oi := ⟨some 23, _, _, _, _, _⟩) (v := ?vb1_2) rfl (by kernel_rfl) (by kernel_rfl) (by kernel_rfl) (fun _ _ _ h => h) (Or.inl ⟨by rfl, ?hyb1_2⟩) (by assumption) ?restb1_2
      case hyb1_2 => intro W hSW; go_simp; try rfl
      try simp only [Act.put, List.setIfInBounds_toArray, List.set_cons_zero, List.set_cons_succ]
      refine wpAnyH_take (i := 2) (oi := ⟨some 24, _, _, _, _, _⟩) (v := ?vb2_3) rfl (by kernel_rfl) (by kernel_rfl) (by kernel_rfl) (fun _ _ _ h => h) (Or.inl ⟨by rfl, ?hyb2_3⟩) (by assumption) ?restb2_3
      case hyb2_3 => intro W hSW; obtain ⟨k0, k1, k2, k3⟩ := row4 (Whole.bel V4.out hSW); go_simp; try rfl
      try simp only [Act.put, List.setIfInBounds_toArray, List.set_cons_zero, List.set_cons_succ]
      refine wpAnyH_take (i := 3) (oi := ⟨some 25, _, _, _, _, _⟩) (v := ?vb3_4) rfl (by kernel_rfl) (by kernel_rfl) (by kernel_rfl) (fun _ _ _ h => h) (Or.inl ⟨by rfl, ?hyb3_4⟩) (by assumption) ?restb3_4
      case hyb3_4 => intro W hSW; go_simp; try rfl
      try simp only [Act.put, List.setIfInBounds_toArray, List.set_cons_zero, List.set_cons_succ]
      refine wpAnyH_take (i := 4) (oi := ⟨some 26, _, _, _, _, _⟩) (v := ?vb4_5) rfl (by kernel_rfl) (by kernel_rfl) (by kernel_rfl) (fun _ _ _ h => h) (Or.inl ⟨by rfl, ?hyb4_5⟩) (by assumption) ?restb4_5
      case hyb4_5 => intro W hSW; go_simp; try rfl
      try simp only [Act.put, List.setIfInBounds_toArray, List.set_cons_zero, List.set_cons_succ]
      refine wpAnyH_take (i := 5) (oi := ⟨some 27, _, _, _, _, _⟩) (v := ?vb5_6) rfl (by kernel_rfl) (by kernel_rfl) (by kernel_rfl) (fun _ _ _ h => h) (Or.inl ⟨by rfl, ?hyb5_6⟩) (by assumption) ?restb5_6
      case hyb5_6 => intro W hSW; obtain ⟨k0, k1, k2, k3⟩ := row4 (Whole.bel V4.out hSW); go_simp; try rfl
      try simp only [Act.put, List.setIfInBounds_toArray, List.set_cons_zero, List.set_cons_succ]
      refine wpAnyH_take (i := 6) (oi := ⟨some 28, _, _, _, _, _⟩) (v := ?vb6_7) rfl (by kernel_rfl) (by kernel_rfl) (by kernel_rfl) (fun _ _ _ h => h) (Or.inl ⟨by rfl, ?hyb6_7⟩) (by assumption) ?restb6_7
      case hyb6_7 => intro W hSW; go_simp; try rfl
      try simp only [Act.put, List.setIfInBounds_toArray, List.set_cons_zero, List.set_cons_succ]
      refine wpAnyH_ready (rs := [7]) (by kernel_rfl) (by simp) ?_
      refine (AllReadyH.cons (o := ⟨some 29, _, _, _, _, _⟩) rfl (fun K hK => ?_) AllReadyH.nil)
      · go_simp
        have NW : Whole (wd.alloc (.cells #[Value.int IntKind.i64 z0', Value.int IntKind.i64 z1', Value.int IntKind.i64 l'] 3)) wd.heap.size 3 (iv [z0', z1', l']).toArray := Whole.new wd 3 _
        have hb : Below wd.heap.size wd (wd.alloc (.cells #[Value.int IntKind.i64 z0', Value.int IntKind.i64 z1', Value.int IntKind.i64 l'] 3)) := (Below.refl _ _).alloc (Nat.le_refl _) _
        generalize wd.alloc _ = y8 at *
        obtain ⟨gN_8, hgN_8⟩ : ∃ g, wd.heap.size = g := ⟨_, rfl⟩
        rw [hgN_8] at NW hb ⊢
        rw [← hgN_8] at hb
        have N_8 := Lib.hid NW
        refine hK.out _ _ ?_ (fun hHeld2 => ?_)
        · exact bel_after hHeld (Nat.le_refl _) hb
        clear hK K hHeld
        have hHeld := hHeld2; clear hHeld2
        try simp only [Act.put, List.setIfInBounds_toArray, List.set_cons_zero, List.set_cons_succ]
        clear hb
        clear NW
        refine wpAnyH_ready (rs := [8]) (by kernel_rfl) (by simp) ?_
        refine (AllReadyH.cons (o := ⟨some 30, _, _, _, _, _⟩) rfl (fun K hK => ?_) AllReadyH.nil)
        · go_simp
          refine (A1.out y8 _ _ _ (seen_ints N_8.out rfl)).mono ?_
          rintro e _ ⟨rfl, rfl⟩
          have hb := Below.refl y8.heap.size y8
          have N_9 := Lib.hid (Whole.bel N_8.out hb)
          refine hK.out _ _ ?_ (fun hHeld2 => ?_)
          · exact bel_after hHeld (Nat.le_refl _) hb
          clear hK K hHeld
          have hHeld := hHeld2; clear hHeld2
          try simp only [Act.put, List.setIfInBounds_toArray, List.set_cons_zero, List.set_cons_succ]
          clear hb
          try clear N_8
          refine wpAnyH_take (i := 9) (oi := ⟨some 31, _, _, _, _, _⟩) (v := ?vb9_10) rfl (by kernel_rfl) (by kernel_rfl) (by kernel_rfl) (fun _ _ _ h => h) (Or.inl ⟨by rfl, ?hyb9_10⟩) (by assumption) ?restb9_10
          case hyb9_10 => intro W hSW; go_simp; try rfl
          try simp only [Act.put, List.setIfInBounds_toArray, List.set_cons_zero, List.set_cons_succ]
          refine wpAnyH_take (i := 10) (oi := ⟨some 32, _, _, _, _, _⟩) (v := ?vb10_11) rfl (by kernel_rfl) (by kernel_rfl) (by kernel_rfl) (fun _ _ _ h => h) (Or.inl ⟨by rfl, ?hyb10_11⟩) (by assumption) ?restb10_11
          case hyb10_11 => intro W hSW; go_simp; try rfl
          try simp only [Act.put, List.setIfInBounds_toArray, List.set_cons_zero, List.set_cons_succ]
          refine wpAnyH_take (i := 11) (oi := ⟨some 33, _, _, _, _, _⟩) (v := ?vb11_12) rfl (by kernel_rfl) (by kernel_rfl) (by kernel_rfl) (fun _ _ _ h => h) (Or.inl ⟨by rfl, ?hyb11_12⟩) (by assumption) ?restb11_12
          case hyb11_12 => intro W hSW; go_simp; try rfl
          try simp only [Act.put, List.setIfInBounds_toArray, List.set_cons_zero, List.set_cons_succ]
          refine wpAnyH_take (i := 12) (oi := ⟨some 34, _, _, _, _, _⟩) (v := ?vb12_13) rfl (by kernel_rfl) (by kernel_rfl) (by kernel_rfl) (fun _ _ _ h => h) (Or.inl ⟨by rfl, ?hyb12_13⟩) (by assumption) ?restb12_13
          case hyb12_13 => intro W hSW; go_simp; try rfl
          try simp only [Act.put, List.setIfInBounds_toArray, List.set_cons_zero, List.set_cons_succ]
          refine wpAnyH_take (i := 13) (oi := ⟨some 35, _, _, _, _, _⟩) (v := ?vb13_14) rfl (by kernel_rfl) (by kernel_rfl) (by kernel_rfl) (fun _ _ _ h => h) (Or.inl ⟨by rfl, ?hyb13_14⟩) (by assumption) ?restb13_14
          case hyb13_14 => intro W hSW; obtain ⟨k0, k1, k2, k3⟩ := row4 (Whole.bel V4.out hSW); go_simp; try rfl
          try simp only [Act.put, List.setIfInBounds_toArray, List.set_cons_zero, List.set_cons_succ]
          refine wpAnyH_ready (rs := [14]) (by kernel_rfl) (by simp) ?_
          refine (AllReadyH.cons (o := ⟨some 36, _, _, _, _, _⟩) rfl (fun K hK => ?_) AllReadyH.nil)
          · go_simp
            have NW : Whole (y8.alloc (.cells #[Value.int IntKind.i64 z3'] 3)) y8.heap.size 3 (iv [z3']).toArray := Whole.new y8 3 _
            have hb : Below y8.heap.size y8 (y8.alloc (.cells #[Value.int IntKind.i64 z3'] 3)) := (Below.refl _ _).alloc (Nat.le_refl _) _
            generalize y8.alloc _ = y15 at *
            obtain ⟨gM_15, hgM_15⟩ : ∃ g, y8.heap.size = g := ⟨_, rfl⟩
            rw [hgM_15] at NW hb ⊢
            rw [← hgM_15] at hb
            have N_15 := Lib.hid (Whole.bel N_9.out hb)
            have M_15 := Lib.hid NW
            refine hK.out _ _ ?_ (fun hHeld2 => ?_)
            · exact bel_after hHeld (Nat.le_refl _) hb
            clear hK K hHeld
            have hHeld := hHeld2; clear hHeld2
            try simp only [Act.put, List.setIfInBounds_toArray, List.set_cons_zero, List.set_cons_succ]
            clear hb
            clear NW
            try clear N_9
            refine wpAnyH_ready (rs := [15]) (by kernel_rfl) (by simp) ?_
            refine (AllReadyH.cons (o := ⟨some 37, _, _, _, _, _⟩) rfl (fun K hK => ?_) AllReadyH.nil)
            · go_simp
              refine (A2.out y15 _ _ _ (seen_ints M_15.out rfl)).mono ?_
              rintro e _ ⟨rfl, rfl⟩
              have hb := Below.refl y15.heap.size y15
              have N_16 := Lib.hid (Whole.bel N_15.out hb)
              have M_16 := Lib.hid (Whole.bel M_15.out hb)
              refine hK.out _ _ ?_ (fun hHeld2 => ?_)
              · exact bel_after hHeld (Nat.le_refl _) hb
              clear hK K hHeld
              have hHeld := hHeld2; clear hHeld2
              try simp only [Act.put, List.setIfInBounds_toArray, List.set_cons_zero, List.set_cons_succ]
              clear hb
              try clear N_15
              try clear M_15
              refine wpAnyH_take (i := 16) (oi := ⟨some 38, _, _, _, _, _⟩) (v := ?vb16_17) rfl (by kernel_rfl) (by kernel_rfl) (by kernel_rfl) (fun _ _ _ h => h) (Or.inl ⟨by rfl, ?hyb16_17⟩) (by assumption) ?restb16_17
              case hyb16_17 => intro W hSW; go_simp; try rfl
              try simp only [Act.put, List.setIfInBounds_toArray, List.set_cons_zero, List.set_cons_succ]
              refine wpAnyH_take (i := 17) (oi := ⟨some 10, _, _, _, _, _⟩) (v := ?vb17_18) rfl (by kernel_rfl) (by kernel_rfl) (by kernel_rfl) (fun _ _ _ h => h) (Or.inl ⟨by rfl, ?hyb17_18⟩) (by assumption) ?restb17_18
              case hyb17_18 => intro W hSW; go_simp; try rfl
              try simp only [Act.put, List.setIfInBounds_toArray, List.set_cons_zero, List.set_cons_succ]
              refine wpAnyH_done (by kernel_rfl) ?_ _
              go_wp2_with fail
              go_meet
              case rel => exact ⟨rfl, Lib.hid hHeld⟩
  case rest =>
    obtain ⟨rfl, hbx⟩ := hcut
    have C5 := Lib.hid (C4.out.bel hbx.out); have K5 := Lib.hid (Whole.bel K4.out hbx.out); have O5 := Lib.hid (O4.out.trans (Only.of_below hbx.out _))
    clear C4 O4 K4 V4 hbx A1 A2 hrr
    go_wp2_with fail
    refine (P.out wc C5.out).mono ?_
    rintro e w6 ⟨rfl, d6, o6⟩
    have C6 := Lib.hid d6; have K6 := Lib.hid (K5.out.only o6 hpg); have O6 := Lib.hid (O5.out.trans o6)
    clear d6 o6 C5 K5 O5 P
    by_cases he : er = 0
    · subst he
      have hv : endV z2' p0' p1'' 0 = .tuple #[.int .i64 z2', .int .i64 p0', .int .i64 p1''] := by simp [endV]
      have hRV := HRV.out
      rw [hv] at hRV
      subst hRV
      clear hv HRV
      go_upto_region 6 with fail
      refine wp_region_held_drew (S := (fun W => Below w6.heap.size w6 W)) (by kernel_rfl) (Below.refl _ _).drew (fun hHeld => ?_)
      have hHeld0 := hHeld
      generalize hwd : w6.drew = wd at *
      clear hwd hHeld0
      refine wpAnyH_take (i := 0) (oi := ⟨some 45, _, _, _, _, _⟩) (v := ?vc0_1) rfl (by kernel_rfl) (by kernel_rfl) (by kernel_rfl) (fun _ _ _ h => h) (Or.inl ⟨by rfl, ?hyc0_1⟩) (by assumption) ?restc0_1
      case hyc0_1 => intro W hSW; go_simp; try rfl
      try simp only [Act.put, List.setIfInBounds_toArray, List.set_cons_zero, List.set_cons_succ]
      refine wpAnyH_take (i := 1) (oi := ⟨some 46, _, _, _, _, _⟩) (v := ?vc1_2) rfl (by kernel_rfl) (by kernel_rfl) (by kernel_rfl) (fun _ _ _ h => h) (Or.inl ⟨by rfl, ?hyc1_2⟩) (by assumption) ?restc1_2
      case hyc1_2 => intro W hSW; go_simp; try rfl
      try simp only [Act.put, List.setIfInBounds_toArray, List.set_cons_zero, List.set_cons_succ]
      refine wpAnyH_take (i := 2) (oi := ⟨some 47, _, _, _, _, _⟩) (v := ?vc2_3) rfl (by kernel_rfl) (by kernel_rfl) (by kernel_rfl) (fun _ _ _ h => h) (Or.inl ⟨by rfl, ?hyc2_3⟩) (by assumption) ?restc2_3
      case hyc2_3 => intro W hSW; go_simp; try rfl
      try simp only [Act.put, List.setIfInBounds_toArray, List.set_cons_zero, List.set_cons_succ]
      refine wpAnyH_take (i := 3) (oi := ⟨some 48, _, _, _, _, _⟩) (v := ?vc3_4) rfl (by kernel_rfl) (by kernel_rfl) (by kernel_rfl) (fun _ _ _ h => h) (Or.inl ⟨by rfl, ?hyc3_4⟩) (by assumption) ?restc3_4
      case hyc3_4 => intro W hSW; obtain ⟨k0, k1⟩ := row2 (Whole.bel K6.out hSW); go_simp; try rfl
      try simp only [Act.put, List.setIfInBounds_toArray, List.set_cons_zero, List.set_cons_succ]
      refine wpAnyH_take (i := 4) (oi := ⟨some 49, _, _, _, _, _⟩) (v := ?vc4_5) rfl (by kernel_rfl) (by kernel_rfl) (by kernel_rfl) (fun _ _ _ h => h) (Or.inl ⟨by rfl, ?hyc4_5⟩) (by assumption) ?restc4_5
      case hyc4_5 => intro W hSW; go_simp; try rfl
      try simp only [Act.put, List.setIfInBounds_toArray, List.set_cons_zero, List.set_cons_succ]
      refine wpAnyH_take (i := 5) (oi := ⟨some 50, _, _, _, _, _⟩) (v := ?vc5_6) rfl (by kernel_rfl) (by kernel_rfl) (by kernel_rfl) (fun _ _ _ h => h) (Or.inl ⟨by rfl, ?hyc5_6⟩) (by assumption) ?restc5_6
      case hyc5_6 => intro W hSW; go_simp; try rfl
      try simp only [Act.put, List.setIfInBounds_toArray, List.set_cons_zero, List.set_cons_succ]
      refine wpAnyH_take (i := 6) (oi := ⟨some 51, _, _, _, _, _⟩) (v := ?vc6_7) rfl (by kernel_rfl) (by kernel_rfl) (by kernel_rfl) (fun _ _ _ h => h) (Or.inl ⟨by rfl, ?hyc6_7⟩) (by assumption) ?restc6_7
      case hyc6_7 => intro W hSW; obtain ⟨k0, k1⟩ := row2 (Whole.bel K6.out hSW); go_simp; try rfl
      try simp only [Act.put, List.setIfInBounds_toArray, List.set_cons_zero, List.set_cons_succ]
      refine wpAnyH_take (i := 7) (oi := ⟨some 2, _, _, _, _, _⟩) (v := ?vc7_8) rfl (by kernel_rfl) (by kernel_rfl) (by kernel_rfl) (fun _ _ _ h => h) (Or.inl ⟨by rfl, ?hyc7_8⟩) (by assumption) ?restc7_8
      case hyc7_8 => intro W hSW; go_simp; try rfl
      try simp only [Act.put, List.setIfInBounds_toArray, List.set_cons_zero, List.set_cons_succ]
      refine wpAnyH_take (i := 8) (oi := ⟨some 3, _, _, _, _, _⟩) (v := ?vc8_9) rfl (by kernel_rfl) (by kernel_rfl) (by kernel_rfl) (fun _ _ _ h => h) (Or.inl ⟨by rfl, ?hyc8_9⟩) (by assumption) ?restc8_9
      case hyc8_9 => intro W hSW; go_simp; try rfl
      try simp only [Act.put, List.setIfInBounds_toArray, List.set_cons_zero, List.set_cons_succ]
      refine wpAnyH_take (i := 9) (oi := ⟨some 4, _, _, _, _, _⟩) (v := ?vc9_10) rfl (by kernel_rfl) (by kernel_rfl) (by kernel_rfl) (fun _ _ _ h => h) (Or.inl ⟨by rfl, ?hyc9_10⟩) (by assumption) ?restc9_10
      case hyc9_10 => intro W hSW; go_simp; try rfl
      try simp only [Act.put, List.setIfInBounds_toArray, List.set_cons_zero, List.set_cons_succ]
      refine wpAnyH_done (by kernel_rfl) ?_ _
      go_wp2_with fail
      refine bodyPost_ret (results_tmp3 rfl _ _ _) rfl ?_
      exact ⟨rfl, C6.out.bel ⟨hHeld.os, hHeld.tape, hHeld.output, hHeld.size, hHeld.block⟩, O6.out.trans (Only.of_below hHeld _)⟩
    · have hv : endV z2' p0' p1'' er = .tuple #[.int .i64 0, .int .i64 0, .int .i64 0] := by simp [endV, he]
      have hRV := HRV.out
      rw [hv] at hRV
      subst hRV
      have hb : (er == 0) = false := by simpa using he
      clear hv he HRV
      go_wp2_with fail
      refine bodyPost_ret (results_tmp3 rfl _ _ _) rfl ?_
      exact ⟨rfl, C6.out, O6.out⟩
end Go.Proofs.Ytplilajgncfieaa
