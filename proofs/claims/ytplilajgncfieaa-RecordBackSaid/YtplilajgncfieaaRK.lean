/-
  Records that a cursor reads: ReadLocal. Conditions: the cursor stands as told, over at most a million bytes.
-/
import Derived.Test.YtplilajgncfieaaRJ
namespace Go.Proofs.Ytplilajgncfieaa
open Go.RowKit
set_option maxRecDepth 100000

/-- The record that a reader answers, and the flag. -/
def recOf (q : List Nat × Nat × Int) (x1 : Int) (x2 x3 x4 : Nat) (x5 x6 of : Int) : Rec := if q.2.2 = 0 then ⟨x1, x3, x2, x4, x5, x6, strOf q.1, of⟩ else rec0
def flOf (q : List Nat × Nat × Int) (x0 : Int) : Bool := if q.2.2 = 0 then x0 == 8 else false
theorem recRes_of (q : List Nat × Nat × Int) (x0 x1 : Int) (x2 x3 x4 : Nat) (x5 x6 of : Int) : recRes q x0 x1 x2 x3 x4 x5 x6 of = .tuple #[.agg (recC (recOf q x1 x2 x3 x4 x5 x6 of)), .bool (flOf q x0)] := by
  unfold recRes recOf flOf
  split <;> rfl
theorem shAll {w : World} {g : Nat} {x0 x1 : Int} {x2 x3 x4 : Nat} {x5 x6 x7 x8 : Int} {na : ByteArray} {of : Int} (h : Whole w g 62 (shC x0 x1 x2 x3 x4 x5 x6 x7 x8 na of)) : w.cell? ⟨g, 0, none⟩ = some (.int .i64 x0) ∧ w.cell? ⟨g, 1, none⟩ = some (.int .i64 x1) ∧ w.cell? ⟨g, 2, none⟩ = some (.int .u16 x3) ∧ w.cell? ⟨g, 3, none⟩ = some (.int .u16 x2) ∧ w.cell? ⟨g, 4, none⟩ = some (.int .u32 x4) ∧ w.cell? ⟨g, 5, none⟩ = some (.int .i64 x5) ∧ w.cell? ⟨g, 6, none⟩ = some (.int .i64 x6) ∧ w.cell? ⟨g, 7, none⟩ = some (.string na) ∧ w.cell? ⟨g, 8, none⟩ = some (.int .i64 of) ∧ w.cell? ⟨g, 9, none⟩ = some (.int .i64 x7) ∧ w.cell? ⟨g, 10, none⟩ = some (.int .i64 x8) := by
  refine ⟨?_, ?_, ?_, ?_, ?_, ?_, ?_, ?_, ?_, ?_, ?_⟩ <;> rw [h.cell] <;> rfl

theorem list9 {l : List Int} (h : l.length = 9) : ∃ a b c d e f g i j, l = [a, b, c, d, e, f, g, i, j] := by
  match l, h with
  | [a, b, c, d, e, f, g, i, j], _ => exact ⟨a, b, c, d, e, f, g, i, j, rfl⟩
theorem sh_ex (bs : List Nat) (a : Nat) (err : Int) (ha : a ≤ bs.length) (h256 : ∀ x ∈ bs, x < 256) : ∃ x0 x1 x2 x3 x4 x5 x6 x7 x8 a' err', ShIs bs a err x0 x1 x2 x3 x4 x5 x6 x7 x8 a' err' := by
  have l1 := rdz_length bs szS a err
  have p1 := rdz_place bs szS a err ha
  have b1 := rdz_lt bs h256 szS a err
  obtain ⟨q1, hq1⟩ : ∃ q, rdz bs szS a err = q := ⟨_, rfl⟩
  rw [hq1] at l1 p1 b1
  obtain ⟨q1, a1, e1⟩ := q1
  obtain ⟨x0, x1, x2, x3, x4, x5, x6, x7, x8, rfl⟩ := list9 l1
  obtain ⟨v2, g2, t2, u2⟩ := b1 2 2 rfl
  obtain ⟨v3, g3, t3, u3⟩ := b1 3 2 rfl
  obtain ⟨v4, g4, t4, u4⟩ := b1 4 4 rfl
  obtain ⟨v7, g7, t7, u7⟩ := b1 7 2 rfl
  obtain rfl : x2 = v2 := by simpa using g2
  obtain rfl : x3 = v3 := by simpa using g3
  obtain rfl : x4 = v4 := by simpa using g4
  obtain rfl : x7 = v7 := by simpa using g7
  obtain ⟨x2, rfl⟩ := nat_of t2
  obtain ⟨x3, rfl⟩ := nat_of t3
  obtain ⟨x4, rfl⟩ := nat_of t4
  refine ⟨x0, x1, x2, x3, x4, x5, x6, x7, x8, a1, e1, hq1, ?_, ?_, ?_, t7, by simpa using u7, p1⟩
  · simp at u2; omega
  · simp at u3; omega
  · simp at u4; omega
theorem readShared_is (B g : Nat) (sv : Value) (bs : List Nat) (a : Nat) (err : Int) {x0 x1 : Int} {x2 x3 x4 : Nat} {x5 x6 x7 x8 : Int} {a' : Nat} {err' : Int} (hS : ShIs bs a err x0 x1 x2 x3 x4 x5 x6 x7 x8 a' err') (w : World) (h : CursorAt w B g sv bs a err) (hb : bs.length ≤ 1000000) (ha : a ≤ bs.length) (h256 : ∀ x ∈ bs, x < 256) :
    Calls Try.prog 33 #[.pointer (some ⟨g, 0, none⟩)] w fun e w' => e = .returned (.agg (shC x0 x1 x2 x3 x4 x5 x6 x7 x8 ⟨#[]⟩ 0)) ∧ CurRes w B g sv bs (a', err') w' := by
  obtain ⟨Y0, Y1, Y2, Y3, Y4, Y5, Y6, Y7, Y8, b3, f3, hI', hc⟩ := readShared_any B g sv bs a err w h hb ha h256
  have hh := hS.1.symm.trans hI'.1
  simp only [Prod.mk.injEq, List.cons.injEq, Int.natCast_inj, and_true] at hh
  obtain ⟨⟨rfl, rfl, rfl, rfl, rfl, rfl, rfl, rfl, rfl⟩, rfl, rfl⟩ := hh
  exact hc

/-- Are a local record's numbers right? -/
def locR (v x0 x1 : Int) (x4 : Nat) (x5 x6 x8 : Int) : Bool := v == 20 && rightS x0 x1 x8 && (x0 == 0 || nothS x4 x5 x6)
/-- The numbers of a local record. -/
def LocIs (bs : List Nat) (a : Nat) (err : Int) (m v x0 x1 : Int) (x2 x3 x4 : Nat) (x5 x6 x7 x8 : Int) (a' : Nat) (err' : Int) : Prop :=
  rdz bs (4 :: 2 :: szS) a err = ([m, v, x0, x1, (x2 : Int), (x3 : Int), (x4 : Int), x5, x6, x7, x8], a', err') ∧ x2 < 65536 ∧ x3 < 65536 ∧ x4 < 4294967296 ∧ 0 ≤ x7 ∧ x7 < 65536 ∧ a' ≤ bs.length

set_option linter.unusedSimpArgs false in
set_option maxHeartbeats 4000000 in
theorem readLocal_is (B g : Nat) (sv : Value) (bs : List Nat) (a : Nat) (err : Int) {m v x0 x1 : Int} {x2 x3 x4 : Nat} {x5 x6 x7 x8 : Int} {a' : Nat} {err' : Int} (hL : LocIs bs a err m v x0 x1 x2 x3 x4 x5 x6 x7 x8 a' err') (w : World) (h : CursorAt w B g sv bs a err) (hb : bs.length ≤ 1000000) (ha : a ≤ bs.length) (h256 : ∀ x ∈ bs, x < 256) :
    Calls Try.prog 16 #[.pointer (some ⟨g, 0, none⟩)] w fun e w' => e = .returned (recRes (nxt bs a' (errP (m == 67324752) (locR v x0 x1 x4 x5 x6 x8) err') x7 true) x0 x1 x2 x3 x4 x5 x6 0) ∧ CurRes w B g sv bs (nxt bs a' (errP (m == 67324752) (locR v x0 x1 x4 x5 x6 x8) err') x7 true).2 w' := by
  have N1 := Lib.hid (fun W hW => number_any B g sv bs a err 4 4 (.inr rfl) rfl W hW hb ha h256)
  have p1 := rd1_place bs 4 a err ha
  obtain ⟨q1, hq1⟩ : ∃ q, rd1 bs 4 a err = q := ⟨_, rfl⟩
  rw [hq1] at p1 N1
  obtain ⟨m', a1, e1⟩ := q1
  simp only at p1 N1
  have N2 := Lib.hid (fun W hW => number_any B g sv bs a1 e1 2 2 (.inl rfl) rfl W hW hb p1 h256)
  have p2 := rd1_place bs 2 a1 e1 p1
  obtain ⟨q2, hq2⟩ : ∃ q, rd1 bs 2 a1 e1 = q := ⟨_, rfl⟩
  rw [hq2] at p2 N2
  obtain ⟨v', a2, e2⟩ := q2
  simp only at p2 N2
  obtain ⟨hL, r2, r3, r4, r7, r7', pa⟩ := hL
  have hS : ShIs bs a2 e2 x0 x1 x2 x3 x4 x5 x6 x7 x8 a' err' ∧ m' = m ∧ v' = v := by
    have h1 : rdz bs (4 :: 2 :: szS) a err = (m' :: v' :: (rdz bs szS a2 e2).1, (rdz bs szS a2 e2).2) := by simp only [rdz, hq1, hq2]
    rw [h1] at hL
    simp only [Prod.mk.injEq, List.cons.injEq] at hL
    exact ⟨⟨Prod.ext hL.1.2.2 hL.2, r2, r3, r4, r7, r7', pa⟩, hL.1.1, hL.1.2.1⟩
  obtain ⟨hS, rfl, rfl⟩ := hS
  have N3 := Lib.hid (fun W hW => readShared_is B g sv bs a2 e2 hS W hW hb p2 h256)
  have N4 := Lib.hid (fun W => right_any x0 x1 x2 x3 x4 x5 x6 x7 x8 ⟨#[]⟩ 0 W)
  have N5 := Lib.hid (fun W => saysNothing_any x0 x1 x2 x3 x4 x5 x6 x7 x8 ⟨#[]⟩ 0 W)
  have N6 := Lib.hid (fun W (mm rr : Bool) hW => named_any B g sv bs a' err' x0 x1 x2 x3 x4 x5 x6 x7 x8 ⟨#[]⟩ 0 mm rr r7 W hW hb pa)
  have HC := Lib.hid h
  have hgl := h.2.1.lt
  clear hL hS hq1 hq2 p1 p2 r2 r3 r4 r7 r7' pa h hb ha h256
  unfold locR
  obtain ⟨R1, hR1⟩ : ∃ r, rightS x0 x1 x8 = r := ⟨_, rfl⟩
  obtain ⟨R2, hR2⟩ : ∃ r, nothS x4 x5 x6 = r := ⟨_, rfl⟩
  rw [hR1] at N4 ⊢
  rw [hR2] at N5 ⊢
  clear hR1 hR2
  obtain ⟨mm, hmm⟩ : ∃ r, (m' == 67324752) = r := ⟨_, rfl⟩
  rw [hmm]
  obtain ⟨t1, ht1⟩ : ∃ r, (v' == 20) = r := ⟨_, rfl⟩
  obtain ⟨t2, ht2⟩ : ∃ r, (x0 == 0) = r := ⟨_, rfl⟩
  rw [ht1, ht2]
  obtain ⟨rr, hrr⟩ : ∃ r, (t1 && R1 && (t2 || R2)) = r := ⟨_, rfl⟩
  rw [hrr]
  have N7 := Lib.hid (fun W hW => N6.out W mm rr hW)
  clear N6
  obtain ⟨q, hq⟩ : ∃ q, nxt bs a' (errP mm rr err') x7 true = q := ⟨_, rfl⟩
  rw [hq] at N7 ⊢
  clear hq
  rw [recRes_of] at N7 ⊢
  generalize recOf q x1 x2 x3 x4 x5 x6 0 = R at *
  generalize flOf q x0 = F at *
  go_enter Try.func16, Try.ntmps16
  go_wp2_with fail
  have C0 := Lib.hid (HC.out.bel ((Below.refl w.heap.size w).alloc (Nat.le_refl _) (.cells (recC rec0) 27)))
  have Z0 := Lib.hid (Whole.new w 27 (recC rec0))
  have O0 := Lib.hid (Only.of_below ((Below.refl w.heap.size w).alloc (Nat.le_refl _) (.cells (recC rec0) 27)) (fun i => i = g))
  simp only [recC, rec0] at C0 Z0 O0
  generalize w.alloc _ = w0 at C0 Z0 O0 ⊢
  obtain ⟨gz, hgz⟩ : ∃ gz, w.heap.size = gz := ⟨_, rfl⟩
  rw [hgz] at Z0 ⊢
  have hzg : gz ≠ g := by omega
  have hwz : w.heap.size ≤ gz := by omega
  clear hgz hgl
  refine (N1.out w0 C0.out).mono ?_
  rintro e w1 ⟨rfl, d1, o1⟩
  have C1 := Lib.hid d1; have Z1 := Lib.hid (Z0.out.only o1 hzg); have O1 := Lib.hid (O0.out.trans o1)
  clear d1 o1 Z0 O0 C0 N1
  go_wp2_with fail
  refine (N2.out w1 C1.out).mono ?_
  rintro e w2 ⟨rfl, d2, o2⟩
  have C2 := Lib.hid d2; have Z2 := Lib.hid (Z1.out.only o2 hzg); have O2 := Lib.hid (O1.out.trans o2)
  clear d2 o2 Z1 O1 C1 N2
  go_wp2_with fail
  refine (N3.out w2 C2.out).mono ?_
  rintro e w3 ⟨rfl, d3, o3⟩
  have C3 := Lib.hid d3; have Z3 := Lib.hid (Z2.out.only o3 hzg); have O3 := Lib.hid (O2.out.trans o3)
  clear d3 o3 Z2 O2 C2 N3
  simp only at C3
  have NW := Lib.hid (Whole.new w3 62 (shC 0 0 0 0 0 0 0 0 0 ⟨#[]⟩ 0))
  have NB := Lib.hid (below_setRow ((Below.refl w3.heap.size w3).alloc (Nat.le_refl _) (.cells (shC 0 0 0 0 0 0 0 0 0 ⟨#[]⟩ 0) 62)) (g := w3.heap.size) (shC x0 x1 x2 x3 x4 x5 x6 x7 x8 ⟨#[]⟩ 0) (Nat.le_refl _))
  have NR := Lib.hid (NW.out.setRow (shC x0 x1 x2 x3 x4 x5 x6 x7 x8 ⟨#[]⟩ 0))
  go_upto_region 3 with (refine wpList_store_row rfl 62 (.tmp 6) (.tmp 13) rfl w3.heap.size (shC x0 x1 x2 x3 x4 x5 x6 x7 x8 ⟨#[]⟩ 0) rfl rfl 62 (shC 0 0 0 0 0 0 0 0 0 ⟨#[]⟩ 0) NW.out (sh_size ..) rfl (sh_one ..) ?_)
  have C4 := Lib.hid (C3.out.bel NB.out); have Z4 := Lib.hid (Whole.bel Z3.out NB.out); have O4 := Lib.hid (O3.out.trans (Only.of_below NB.out _))
  simp only [shC] at C4 Z4 O4 NR ⊢
  simp only [Act.put]
  obtain ⟨g6, hg6⟩ : ∃ g, w3.heap.size = g := ⟨_, rfl⟩
  rw [hg6] at NR C4 Z4 O4 ⊢
  clear NB NW hg6 C3 Z3 O3
  generalize (w3.alloc _).setRow g6 _ = w4 at *
  obtain ⟨c0, c1, c2, c3, c4, c5, c6, c7, c8, c9, c10⟩ := shAll NR.out
  go_cut [7] (fun s7 wx => s7 = .bool rr ∧ Hid (Below w4.heap.size w4 wx))
  case first =>
    cases t1
    · obtain rfl : false = rr := by simpa using hrr
      go_wp2_with fail
      go_meet
      case rel => exact ⟨rfl, Lib.hid (Below.refl _ _)⟩
    · cases R1
      · obtain rfl : false = rr := by simpa using hrr
        go_wp2_with fail
        refine (N4.out w4).mono ?_; rintro e w5 ⟨rfl, b5⟩
        have B5 := Lib.hid b5; clear b5
        go_wp2_with fail
        go_meet
        case rel => exact ⟨rfl, B5⟩
      · cases t2
        · obtain rfl : R2 = rr := by simpa using hrr
          go_wp2_with fail
          refine (N4.out w4).mono ?_; rintro e w5 ⟨rfl, b5⟩
          have B5 := Lib.hid b5; clear b5 c0 c1 c2 c3 c4 c5 c6 c7 c8 c9 c10
          obtain ⟨c0, c1, c2, c3, c4, c5, c6, c7, c8, c9, c10⟩ := shAll (Whole.bel NR.out B5.out)
          go_wp2_with fail
          refine (N5.out w5).mono ?_; rintro e w6 ⟨rfl, b6⟩
          have B6 := Lib.hid (bel_after B5.out (Nat.le_refl _) b6); clear b6
          go_wp2_with fail
          go_meet
          case rel => exact ⟨rfl, B6⟩
        · obtain rfl : true = rr := by simpa using hrr
          go_wp2_with fail
          refine (N4.out w4).mono ?_; rintro e w5 ⟨rfl, b5⟩
          have B5 := Lib.hid b5; clear b5 c0 c1 c2 c3 c4 c5 c6 c7 c8 c9 c10
          obtain ⟨c0, c1, c2, c3, c4, c5, c6, c7, c8, c9, c10⟩ := shAll (Whole.bel NR.out B5.out)
          go_wp2_with fail
          go_meet
          case rel => exact ⟨rfl, B5⟩
  case rest =>
    obtain ⟨rfl, hbx⟩ := hcut
    have C5 := Lib.hid (C4.out.bel hbx.out); have Z5 := Lib.hid (Whole.bel Z4.out hbx.out); have O5 := Lib.hid (O4.out.trans (Only.of_below hbx.out _))
    have NR5 := Whole.bel NR.out hbx.out
    clear c0 c1 c2 c3 c4 c5 c6 c7 c8 c9 c10 N4 N5 ht1 ht2 hrr C4 Z4 O4 NR hbx
    obtain ⟨c0, c1, c2, c3, c4, c5, c6, c7, c8, c9, c10⟩ := shAll NR5
    clear NR5
    go_wp2_with fail
    refine (N7.out wc C5.out).mono ?_
    rintro e w8 ⟨rfl, d8, o8⟩
    have C8 := Lib.hid d8; have Z8 := Lib.hid (Z5.out.only o8 hzg); have O8 := Lib.hid (O5.out.trans o8)
    clear d8 o8 Z5 O5 C5 N7 c0 c1 c2 c3 c4 c5 c6 c7 c8 c9 c10
    have C9 := Lib.hid (C8.out.row Z8.out (by decide) (by decide) (recC R)); have O9 := Lib.hid (O8.out.rowNew hwz (recC R))
    have Z9 : Hid (RecAt _ gz R) := Lib.hid (Z8.out.setRow (recC R))
    go_wp2_with (refine wpList_store_row rfl 27 (.tmp 2) (.tmp 35) rfl gz (recC R) rfl rfl 27 (recC rec0) Z8.out (rec_size R) rfl (rec_one R) ?_)
    refine bodyPost_ret (results_rec (p := 2) (u := 3) rfl _ _ gz R rfl Z9.out) rfl ?_
    exact ⟨rfl, C9.out, O9.out⟩
end Go.Proofs.Ytplilajgncfieaa
