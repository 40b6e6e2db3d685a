/-
  Records that a cursor reads: ReadCentral. Conditions: the cursor stands as told, over at most a million bytes.
-/
import Derived.Test.YtplilajgncfieaaRK
namespace Go.Proofs.Ytplilajgncfieaa
open Go.RowKit
set_option maxRecDepth 100000

/-- Are a central record's numbers right? -/
def cenR (v1 v2 x0 x1 x8 n1 n2 n3 l0 : Int) : Bool := [v1, v2].all (fun x => x == 20) && rightS x0 x1 x8 && [n1, n2, n3].all (fun x => x == 0) && [l0].all (fun x => x == 0)
/-- The sizes of a central record's numbers. -/
def szC : List Nat := 4 :: ([2, 2] ++ (szS ++ ([2, 2, 2] ++ [4, 4])))
/-- The numbers of a central record. -/
def CenIs (bs : List Nat) (a : Nat) (err : Int) (m v1 v2 x0 x1 : Int) (x2 x3 x4 : Nat) (x5 x6 x7 x8 n1 n2 n3 l0 l1 : Int) (a' : Nat) (err' : Int) : Prop :=
  rdz bs szC a err = ([m, v1, v2, x0, x1, (x2 : Int), (x3 : Int), (x4 : Int), x5, x6, x7, x8, n1, n2, n3, l0, l1], a', err') ∧ x2 < 65536 ∧ x3 < 65536 ∧ x4 < 4294967296 ∧ 0 ≤ x7 ∧ x7 < 65536 ∧ a' ≤ bs.length

set_option linter.unusedSimpArgs false in
set_option maxHeartbeats 4000000 in
theorem readCentral_is (B g : Nat) (sv : Value) (bs : List Nat) (a : Nat) (err : Int) {m v1 v2 x0 x1 : Int} {x2 x3 x4 : Nat} {x5 x6 x7 x8 n1 n2 n3 l0 l1 : Int} {a' : Nat} {err' : Int} (hL : CenIs bs a err m v1 v2 x0 x1 x2 x3 x4 x5 x6 x7 x8 n1 n2 n3 l0 l1 a' err') (w : World) (h : CursorAt w B g sv bs a err) (hb : bs.length ≤ 1000000) (ha : a ≤ bs.length) (h256 : ∀ x ∈ bs, x < 256) :
    Calls Try.prog 18 #[.pointer (some ⟨g, 0, none⟩)] w fun e w' => e = .returned (recRes (nxt bs a' (errP (m == 33639248) (cenR v1 v2 x0 x1 x8 n1 n2 n3 l0) err') x7 true) x0 x1 x2 x3 x4 x5 x6 l1) ∧ CurRes w B g sv bs (nxt bs a' (errP (m == 33639248) (cenR v1 v2 x0 x1 x8 n1 n2 n3 l0) err') x7 true).2 w' := by
  have N1 := Lib.hid (fun W hW => number_any B g sv bs a err 4 4 (.inr rfl) rfl W hW hb ha h256)
  have p1 := rd1_place bs 4 a err ha
  obtain ⟨q1, hq1⟩ : ∃ q, rd1 bs 4 a err = q := ⟨_, rfl⟩
  rw [hq1] at p1 N1
  obtain ⟨m', a1, e1⟩ := q1
  simp only at p1 N1
  have N2 := Lib.hid (fun W hW => numbers_any B g sv bs a1 e1 2 2 (.inl rfl) rfl 2 (by omega) W hW hb p1 h256)
  have l2 := rdz_length bs (List.replicate 2 2) a1 e1
  have p2 := rdz_place bs (List.replicate 2 2) a1 e1 p1
  obtain ⟨q2, hq2⟩ : ∃ q, rdz bs (List.replicate 2 2) a1 e1 = q := ⟨_, rfl⟩
  rw [hq2] at p2 N2 l2
  obtain ⟨q2, a2, e2⟩ := q2
  obtain ⟨v1', v2', rfl⟩ := list2 l2
  simp only at p2 N2
  obtain ⟨Y0, Y1, Y2, Y3, Y4, Y5, Y6, Y7, Y8, a3, e3, hS⟩ := sh_ex bs a2 e2 p2 h256
  have p3 := hS.2.2.2.2.2.2
  have N4 := Lib.hid (fun W hW => numbers_any B g sv bs a3 e3 2 2 (.inl rfl) rfl 3 (by omega) W hW hb p3 h256)
  have l4 := rdz_length bs (List.replicate 3 2) a3 e3
  have p4 := rdz_place bs (List.replicate 3 2) a3 e3 p3
  obtain ⟨q4, hq4⟩ : ∃ q, rdz bs (List.replicate 3 2) a3 e3 = q := ⟨_, rfl⟩
  rw [hq4] at p4 N4 l4
  obtain ⟨q4, a4, e4⟩ := q4
  obtain ⟨n1', n2', n3', rfl⟩ := list3 l4
  simp only at p4 N4
  have N5 := Lib.hid (fun W hW => numbers_any B g sv bs a4 e4 4 4 (.inr rfl) rfl 2 (by omega) W hW hb p4 h256)
  have l5 := rdz_length bs (List.replicate 2 4) a4 e4
  have p5 := rdz_place bs (List.replicate 2 4) a4 e4 p4
  obtain ⟨q5, hq5⟩ : ∃ q, rdz bs (List.replicate 2 4) a4 e4 = q := ⟨_, rfl⟩
  rw [hq5] at p5 N5 l5
  obtain ⟨q5, a5, e5⟩ := q5
  obtain ⟨l0', l1', rfl⟩ := list2 l5
  simp only at p5 N5
  obtain ⟨hL, r2, r3, r4, r7, r7', pa⟩ := hL
  have hA : rdz bs szC a err = ([m', v1', v2', Y0, Y1, (Y2 : Int), (Y3 : Int), (Y4 : Int), Y5, Y6, Y7, Y8, n1', n2', n3', l0', l1'], a5, e5) := by
    have h1 : rdz bs szC a err = (m' :: (rdz bs ([2, 2] ++ (szS ++ ([2, 2, 2] ++ [4, 4]))) a1 e1).1, (rdz bs ([2, 2] ++ (szS ++ ([2, 2, 2] ++ [4, 4]))) a1 e1).2) := by
      show rdz bs (4 :: ([2, 2] ++ (szS ++ ([2, 2, 2] ++ [4, 4])))) a err = _
      simp only [rdz, hq1]
    have h2 : rdz bs [2, 2] a1 e1 = ([v1', v2'], a2, e2) := hq2
    have h4 : rdz bs [2, 2, 2] a3 e3 = ([n1', n2', n3'], a4, e4) := hq4
    have h5 : rdz bs [4, 4] a4 e4 = ([l0', l1'], a5, e5) := hq5
    rw [h1, rdz_append, h2]
    simp only
    rw [rdz_append, hS.1]
    simp only
    rw [rdz_append, h4]
    simp only
    rw [h5]
    rfl
  have hh := hA.symm.trans hL
  simp only [Prod.mk.injEq, List.cons.injEq, Int.natCast_inj, and_true] at hh
  obtain ⟨⟨rfl, rfl, rfl, rfl, rfl, rfl, rfl, rfl, rfl, rfl, rfl, rfl, rfl, rfl, rfl, rfl, rfl⟩, rfl, rfl⟩ := hh
  have N3 := Lib.hid (fun W hW => readShared_is B g sv bs a2 e2 hS W hW hb p2 h256)
  have N6 := Lib.hid (fun W An cN Bn hN => are_any 20 An cN Bn 2 [v1', v2'] rfl (by omega) W hN)
  have N7 := Lib.hid (fun W => right_any Y0 Y1 Y2 Y3 Y4 Y5 Y6 Y7 Y8 ⟨#[]⟩ l1' W)
  have N8 := Lib.hid (fun W An cN Bn hN => are_any 0 An cN Bn 3 [n1', n2', n3'] rfl (by omega) W hN)
  have N9 := Lib.hid (fun W An cN Bn hN => are_any 0 An cN Bn 1 [l0'] rfl (by omega) W hN)
  have N0 := Lib.hid (fun W (mm rr : Bool) hW => named_any B g sv bs a5 e5 Y0 Y1 Y2 Y3 Y4 Y5 Y6 Y7 Y8 ⟨#[]⟩ l1' mm rr r7 W hW hb pa)
  have HC := Lib.hid h
  have hgl := h.2.1.lt
  clear hL hS hA hq1 hq2 hq4 hq5 l2 l4 l5 p1 p2 p3 p4 p5 r2 r3 r4 r7 r7' pa h hb ha h256
  unfold cenR
  obtain ⟨A1, hA1⟩ : ∃ r, [v1', v2'].all (fun x => x == 20) = r := ⟨_, rfl⟩
  obtain ⟨R1, hR1⟩ : ∃ r, rightS Y0 Y1 Y8 = r := ⟨_, rfl⟩
  obtain ⟨A2, hA2⟩ : ∃ r, [n1', n2', n3'].all (fun x => x == 0) = r := ⟨_, rfl⟩
  obtain ⟨A3, hA3⟩ : ∃ r, [l0'].all (fun x => x == 0) = r := ⟨_, rfl⟩
  rw [hA1] at N6 ⊢
  rw [hR1] at N7 ⊢
  rw [hA2] at N8 ⊢
  rw [hA3] at N9 ⊢
  clear hA1 hR1 hA2 hA3
  obtain ⟨mm, hmm⟩ : ∃ r, (m' == 33639248) = r := ⟨_, rfl⟩
  rw [hmm]
  obtain ⟨rr, hrr⟩ : ∃ r, (A1 && R1 && A2 && A3) = r := ⟨_, rfl⟩
  rw [hrr]
  have NX := Lib.hid (fun W hW => N0.out W mm rr hW)
  clear N0
  obtain ⟨q, hq⟩ : ∃ q, nxt bs a5 (errP mm rr e5) Y7 true = q := ⟨_, rfl⟩
  rw [hq] at NX ⊢
  clear hq
  rw [recRes_of] at NX ⊢
  generalize recOf q Y1 Y2 Y3 Y4 Y5 Y6 l1' = R at *
  generalize flOf q Y0 = F at *
  go_enter Try.func18, Try.ntmps18
  go_wp2_with fail
  have C0 := Lib.hid (HC.out.bel ((Below.refl w.heap.size w).alloc (Nat.le_refl _) (.cells (recC rec0) 27)))
  have Z0 := Lib.hid (Whole.new w 27 (recC rec0))
  have O0 := Lib.hid (Only.of_below ((Below.refl w.heap.size w).alloc (Nat.le_refl _) (.cells (recC rec0) 27)) (fun i => i = g))
  simp only [recC, rec0] at C0 Z0 O0
  generalize w.alloc _ = w0 at C0 Z0 O0 ⊢
  obtain ⟨gz, hgz⟩ : ∃ gz, w.heap.size = gz := ⟨_, rfl⟩
  rw [hgz] at Z0 ⊢
  have hzg : gz ≠ g := by omega
  have hwz : w.heap.size ≤ gz := by omega
  clear hgz hgl
  refine (N1.out w0 C0.out).mono ?_
  rintro e w1 ⟨rfl, d1, o1⟩
  have C1 := Lib.hid d1; have Z1 := Lib.hid (Z0.out.only o1 hzg); have O1 := Lib.hid (O0.out.trans o1)
  clear d1 o1 Z0 O0 C0 N1
  go_wp2_with fail
  refine (N2.out w1 C1.out).mono ?_
  rintro e w2 ⟨gv, rfl, V2, hgv, d2, o2⟩
  have hvg : gv ≠ g := by have := C1.out.2.1.lt; omega
  have C2 := Lib.hid d2; have Z2 := Lib.hid (Z1.out.only o2 hzg); have O2 := Lib.hid (O1.out.trans o2); have V2 := Lib.hid V2
  clear d2 o2 Z1 O1 C1 N2 hgv
  go_wp2_with fail
  refine (N3.out w2 C2.out).mono ?_
  rintro e w3 ⟨rfl, d3, o3⟩
  have C3 := Lib.hid d3; have Z3 := Lib.hid (Z2.out.only o3 hzg); have O3 := Lib.hid (O2.out.trans o3); have V3 := Lib.hid (V2.out.only o3 hvg)
  clear d3 o3 Z2 O2 C2 V2 N3
  simp only at C3
  have NW := Lib.hid (Whole.new w3 62 (shC 0 0 0 0 0 0 0 0 0 ⟨#[]⟩ 0))
  have NB := Lib.hid (below_setRow ((Below.refl w3.heap.size w3).alloc (Nat.le_refl _) (.cells (shC 0 0 0 0 0 0 0 0 0 ⟨#[]⟩ 0) 62)) (g := w3.heap.size) (shC Y0 Y1 Y2 Y3 Y4 Y5 Y6 Y7 Y8 ⟨#[]⟩ 0) (Nat.le_refl _))
  have NR := Lib.hid (NW.out.setRow (shC Y0 Y1 Y2 Y3 Y4 Y5 Y6 Y7 Y8 ⟨#[]⟩ 0))
  go_upto_region 3 with (refine wpList_store_row rfl 62 (.tmp 6) (.tmp 15) rfl w3.heap.size (shC Y0 Y1 Y2 Y3 Y4 Y5 Y6 Y7 Y8 ⟨#[]⟩ 0) rfl rfl 62 (shC 0 0 0 0 0 0 0 0 0 ⟨#[]⟩ 0) NW.out (sh_size ..) rfl (sh_one ..) ?_)
  have C4 := Lib.hid (C3.out.bel NB.out); have Z4 := Lib.hid (Whole.bel Z3.out NB.out); have O4 := Lib.hid (O3.out.trans (Only.of_below NB.out _)); have V4 := Lib.hid (Whole.bel V3.out NB.out)
  have hg3 := C3.out.2.1.lt
  simp only [shC] at C4 Z4 O4 NR V4 ⊢
  simp only [Act.put]
  obtain ⟨g6, hg6⟩ : ∃ g, w3.heap.size = g := ⟨_, rfl⟩
  rw [hg6] at NR C4 Z4 O4 V4 ⊢
  have h6g : g6 ≠ g := by omega
  have hw6 : w.heap.size ≤ g6 := by have := O3.out.size; omega
  clear NB NW hg6 hg3 C3 Z3 O3 V3
  generalize (w3.alloc _).setRow g6 _ = w4 at *
  go_wp2_with fail
  refine (N4.out w4 C4.out).mono ?_
  rintro e w5 ⟨gn, rfl, M5, hgn, d5, o5⟩
  have hng : gn ≠ g := by have := C4.out.2.1.lt; omega
  have C5 := Lib.hid d5; have Z5 := Lib.hid (Z4.out.only o5 hzg); have O5 := Lib.hid (O4.out.trans o5); have V5 := Lib.hid (V4.out.only o5 hvg); have M5 := Lib.hid M5
  have S5 : Hid (Whole w5 g6 62 (shC Y0 Y1 Y2 Y3 Y4 Y5 Y6 Y7 Y8 ⟨#[]⟩ 0)) := Lib.hid (NR.out.only o5 h6g)
  have hn6 : gn ≠ g6 := by have := Whole.lt NR.out; omega
  clear d5 o5 Z4 O4 C4 V4 N4 NR hgn
  simp only at C5
  go_wp2_with fail
  refine (N5.out w5 C5.out).mono ?_
  rintro e w6 ⟨gl, rfl, K6, hgl, d6, o6⟩
  have hlg : gl ≠ g := by have := C5.out.2.1.lt; omega
  have hl6 : gl ≠ g6 := by have := Whole.lt S5.out; omega
  have C6 := Lib.hid d6; have Z6 := Lib.hid (Z5.out.only o6 hzg); have O6 := Lib.hid (O5.out.trans o6); have V6 := Lib.hid (V5.out.only o6 hvg); have M6 := Lib.hid (M5.out.only o6 hng); have K6 := Lib.hid K6; have S6 := Lib.hid (S5.out.only o6 h6g)
  clear d6 o6 Z5 O5 C5 V5 M5 S5 N5 hgl
  simp only at C6
  obtain ⟨k0, k1⟩ := row2 K6.out
  obtain ⟨c0, c1, c2, c3, c4, c5, c6, c7, c8, c9, c10⟩ := shAll S6.out
  have f8 := S6.out.frozen 8
  clear c0 c1 c2 c3 c4 c5 c6 c7 c9 c10
  go_upto_region 5 with fail
  have hzv : gv ≠ g6 := by
    have := V6.out.ne S6.out (by decide); exact this
  have hz6 : gz ≠ g6 := Z6.out.ne S6.out (by decide)
  have C7 := Lib.hid (C6.out.put S6.out (by decide) (by decide) 8 (.int .i64 l1'))
  have Z7 := Lib.hid (Z6.out.far (p := ⟨g6, 8, none⟩) hz6 (.int .i64 l1'))
  have V7 := Lib.hid (V6.out.far (p := ⟨g6, 8, none⟩) hzv (.int .i64 l1'))
  have M7 := Lib.hid (M6.out.far (p := ⟨g6, 8, none⟩) hn6 (.int .i64 l1'))
  have K7 := Lib.hid (K6.out.far (p := ⟨g6, 8, none⟩) hl6 (.int .i64 l1'))
  have O7 := Lib.hid (O6.out.setCell (p := ⟨g6, 8, none⟩) (.inr hw6) (.int .i64 l1'))
  have S7 : Hid (Whole (w6.setCell ⟨g6, 8, none⟩ (.int .i64 l1')) g6 62 (shC Y0 Y1 Y2 Y3 Y4 Y5 Y6 Y7 Y8 ⟨#[]⟩ l1')) := Lib.hid (by
    have h := S6.out.put 8 (.int .i64 l1')
    simpa [shC] using h)
  clear k0 k1 c8 f8 C6 Z6 V6 M6 K6 O6 S6
  generalize w6.setCell _ _ = w7 at *
  obtain ⟨k0, k1⟩ := row2 K7.out
  obtain ⟨c0, c1, c2, c3, c4, c5, c6, c7, c8, c9, c10⟩ := shAll S7.out
  go_cut [9] (fun s9 wx => s9 = .bool rr ∧ Hid (Below w7.heap.size w7 wx))
  case first =>
    cases A1
    · obtain rfl : false = rr := by simpa using hrr
      go_wp2_with fail
      refine (N6.out w7 _ _ _ (seen_ints V7.out rfl)).mono ?_; rintro e _ ⟨rfl, rfl⟩
      go_wp2_with fail
      go_meet
      case rel => exact ⟨rfl, Lib.hid (Below.refl _ _)⟩
    · cases R1
      · obtain rfl : false = rr := by simpa using hrr
        go_wp2_with fail
        refine (N6.out w7 _ _ _ (seen_ints V7.out rfl)).mono ?_; rintro e _ ⟨rfl, rfl⟩
        go_wp2_with fail
        refine (N7.out w7).mono ?_; rintro e w8 ⟨rfl, b8⟩
        have B8 := Lib.hid b8; clear b8
        go_wp2_with fail
        go_meet
        case rel => exact ⟨rfl, B8⟩
      · cases A2
        · obtain rfl : false = rr := by simpa using hrr
          go_wp2_with fail
          refine (N6.out w7 _ _ _ (seen_ints V7.out rfl)).mono ?_; rintro e _ ⟨rfl, rfl⟩
          go_wp2_with fail
          refine (N7.out w7).mono ?_; rintro e w8 ⟨rfl, b8⟩
          have B8 := Lib.hid b8; clear b8
          go_wp2_with fail
          refine (N8.out w8 _ _ _ (seen_ints (Whole.bel M7.out B8.out) rfl)).mono ?_; rintro e _ ⟨rfl, rfl⟩
          go_wp2_with fail
          go_meet
          case rel => exact ⟨rfl, B8⟩
        · obtain rfl : A3 = rr := by simpa using hrr
          go_wp2_with fail
          refine (N6.out w7 _ _ _ (seen_ints V7.out rfl)).mono ?_; rintro e _ ⟨rfl, rfl⟩
          go_wp2_with fail
          refine (N7.out w7).mono ?_; rintro e w8 ⟨rfl, b8⟩
          have B8 := Lib.hid b8; clear b8
          go_wp2_with fail
          refine (N8.out w8 _ _ _ (seen_ints (Whole.bel M7.out B8.out) rfl)).mono ?_; rintro e _ ⟨rfl, rfl⟩
          clear k0 k1
          obtain ⟨k0, k1⟩ := row2 (Whole.bel K7.out B8.out)
          go_wp2_with fail
          refine (N9.out _ _ _ _ (seen_ints (m := 1) (Whole.new w8 3 (iv [l0']).toArray) rfl)).mono ?_; rintro e _ ⟨rfl, rfl⟩
          have B9 := Lib.hid (B8.out.alloc B8.out.size (.cells #[.int .i64 l0'] 3))
          go_wp2_with fail
          go_meet
          case rel => exact ⟨rfl, B9⟩
  case rest =>
    obtain ⟨rfl, hbx⟩ := hcut
    have C8 := Lib.hid (C7.out.bel hbx.out); have Z8 := Lib.hid (Whole.bel Z7.out hbx.out); have O8 := Lib.hid (O7.out.trans (Only.of_below hbx.out _))
    have NR5 := Whole.bel S7.out hbx.out
    clear c0 c1 c2 c3 c4 c5 c6 c7 c8 c9 c10 k0 k1 N6 N7 N8 N9 hrr C7 Z7 O7 S7 V7 M7 K7 hbx
    obtain ⟨c0, c1, c2, c3, c4, c5, c6, c7, c8, c9, c10⟩ := shAll NR5
    clear NR5
    go_wp2_with fail
    refine (NX.out wc C8.out).mono ?_
    rintro e w9 ⟨rfl, d9, o9⟩
    have C9 := Lib.hid d9; have Z9 := Lib.hid (Z8.out.only o9 hzg); have O9 := Lib.hid (O8.out.trans o9)
    clear d9 o9 Z8 O8 C8 NX c0 c1 c2 c3 c4 c5 c6 c7 c8 c9 c10
    have CX := Lib.hid (C9.out.row Z9.out (by decide) (by decide) (recC R)); have OX := Lib.hid (O9.out.rowNew hwz (recC R))
    have ZX : Hid (RecAt _ gz R) := Lib.hid (Z9.out.setRow (recC R))
    go_wp2_with (refine wpList_store_row rfl 27 (.tmp 2) (.tmp 48) rfl gz (recC R) rfl rfl 27 (recC rec0) Z9.out (rec_size R) rfl (rec_one R) ?_)
    refine bodyPost_ret (results_rec (p := 2) (u := 3) rfl _ _ gz R rfl ZX.out) rfl ?_
    exact ⟨rfl, CX.out, OX.out⟩
end Go.Proofs.Ytplilajgncfieaa
