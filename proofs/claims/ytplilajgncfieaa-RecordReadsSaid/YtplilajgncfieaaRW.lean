/-
  RecordReads: which record of each kind any bytes tell, where the cursor stands then, and what is wrong, is what the document says. Conditions: none (more than 600 bytes are not asked).
-/
import Derived.Test.YtplilajgncfieaaRO
import Derived.Test.YtplilajgncfieaaRT
import Derived.Test.YtplilajgncfieaaRU
import Derived.Test.YtplilajgncfieaaRV
namespace Go.Proofs.Ytplilajgncfieaa
open Go.RowKit
set_option maxRecDepth 100000

theorem reads_long (A : Option Addr) (n c : Nat) (k : Nat) (hn : 600 < n) (w : World) : Calls Try.prog 4 #[.slice A n c, .int .u8 k] w (LawPost w) := by
  have FX := Lib.hid (fun W => fixed_yes W)
  have hd : decide ((600 : Int) < n) = true := by simp; omega
  go_enter Try.func4, Try.ntmps4
  go_wp2_with fail
  refine (FX.out w).mono ?_
  rintro e w1 ⟨rfl, hb⟩
  have B1 := Lib.hid hb
  clear hb
  go_wp2_with fail
  go_ret
  exact ⟨rfl, B1.out⟩

theorem loc_ex (bs : List Nat) (a : Nat) (err : Int) (ha : a ≤ bs.length) (h256 : ∀ x ∈ bs, x < 256) : ∃ m v x0 x1 x2 x3 x4 x5 x6 x7 x8 a' err', LocIs bs a err m v x0 x1 x2 x3 x4 x5 x6 x7 x8 a' err' := by
  have p1 := rd1_place bs 4 a err ha
  have p2 := rd1_place bs 2 (rd1 bs 4 a err).2.1 (rd1 bs 4 a err).2.2 p1
  obtain ⟨x0, x1, x2, x3, x4, x5, x6, x7, x8, a3, e3, hS⟩ := sh_ex bs _ (rd1 bs 2 (rd1 bs 4 a err).2.1 (rd1 bs 4 a err).2.2).2.2 p2 h256
  refine ⟨(rd1 bs 4 a err).1, (rd1 bs 2 (rd1 bs 4 a err).2.1 (rd1 bs 4 a err).2.2).1, x0, x1, x2, x3, x4, x5, x6, x7, x8, a3, e3, ?_, hS.2⟩
  show ((rd1 bs 4 a err).1 :: (rd1 bs 2 (rd1 bs 4 a err).2.1 (rd1 bs 4 a err).2.2).1 :: (rdz bs szS (rd1 bs 2 (rd1 bs 4 a err).2.1 (rd1 bs 4 a err).2.2).2.1 (rd1 bs 2 (rd1 bs 4 a err).2.1 (rd1 bs 4 a err).2.2).2.2).1, (rdz bs szS (rd1 bs 2 (rd1 bs 4 a err).2.1 (rd1 bs 4 a err).2.2).2.1 (rd1 bs 2 (rd1 bs 4 a err).2.1 (rd1 bs 4 a err).2.2).2.2).2) = _
  rw [hS.1]
theorem cen_ex (bs : List Nat) (a : Nat) (err : Int) (ha : a ≤ bs.length) (h256 : ∀ x ∈ bs, x < 256) : ∃ m v1 v2 x0 x1 x2 x3 x4 x5 x6 x7 x8 n1 n2 n3 l0 l1 a' err', CenIs bs a err m v1 v2 x0 x1 x2 x3 x4 x5 x6 x7 x8 n1 n2 n3 l0 l1 a' err' := by
  have p1 := rd1_place bs 4 a err ha
  obtain ⟨q1, hq1⟩ : ∃ q, rd1 bs 4 a err = q := ⟨_, rfl⟩
  rw [hq1] at p1
  obtain ⟨m', a1, e1⟩ := q1
  have l2 := rdz_length bs [2, 2] a1 e1
  have p2 := rdz_place bs [2, 2] a1 e1 p1
  obtain ⟨q2, h2⟩ : ∃ q, rdz bs [2, 2] a1 e1 = q := ⟨_, rfl⟩
  rw [h2] at p2 l2
  obtain ⟨q2, a2, e2⟩ := q2
  obtain ⟨v1', v2', rfl⟩ := list2 l2
  obtain ⟨Y0, Y1, Y2, Y3, Y4, Y5, Y6, Y7, Y8, a3, e3, hS⟩ := sh_ex bs a2 e2 p2 h256
  have p3 := hS.2.2.2.2.2.2
  have l4 := rdz_length bs [2, 2, 2] a3 e3
  have p4 := rdz_place bs [2, 2, 2] a3 e3 p3
  obtain ⟨q4, h4⟩ : ∃ q, rdz bs [2, 2, 2] a3 e3 = q := ⟨_, rfl⟩
  rw [h4] at p4 l4
  obtain ⟨q4, a4, e4⟩ := q4
  obtain ⟨n1', n2', n3', rfl⟩ := list3 l4
  have l5 := rdz_length bs [4, 4] a4 e4
  have p5 := rdz_place bs [4, 4] a4 e4 p4
  obtain ⟨q5, h5⟩ : ∃ q, rdz bs [4, 4] a4 e4 = q := ⟨_, rfl⟩
  rw [h5] at p5 l5
  obtain ⟨q5, a5, e5⟩ := q5
  obtain ⟨l0', l1', rfl⟩ := list2 l5
  refine ⟨m', v1', v2', Y0, Y1, Y2, Y3, Y4, Y5, Y6, Y7, Y8, n1', n2', n3', l0', l1', a5, e5, ?_, hS.2.1, hS.2.2.1, hS.2.2.2.1, hS.2.2.2.2.1, hS.2.2.2.2.2.1, p5⟩
  have h1 : rdz bs szC a err = (m' :: (rdz bs ([2, 2] ++ (szS ++ ([2, 2, 2] ++ [4, 4]))) a1 e1).1, (rdz bs ([2, 2] ++ (szS ++ ([2, 2, 2] ++ [4, 4]))) a1 e1).2) := by
    show rdz bs (4 :: ([2, 2] ++ (szS ++ ([2, 2, 2] ++ [4, 4])))) a err = _
    simp only [rdz, hq1]
  rw [h1, rdz_append, h2]
  simp only
  rw [rdz_append, hS.1]
  simp only
  rw [rdz_append, h4]
  simp only
  rw [h5]
  rfl
theorem endV_form (z2 p0 p1 e : Int) : ∃ u0 u1 u2 : Int, endV z2 p0 p1 e = .tuple #[.int .i64 u0, .int .i64 u1, .int .i64 u2] := by
  unfold endV
  split
  · exact ⟨_, _, _, rfl⟩
  · exact ⟨_, _, _, rfl⟩

/-- What two readers of one kind answer alike. -/
def AlikeP (fp : FuncId) (bs : List Nat) (v : Value) (r : Nat × Int) : Prop := ∀ (B g : Nat) (sv : Value) (W : World), CursorAt W B g sv bs 0 0 → Calls Try.prog fp #[.pointer (some ⟨g, 0, none⟩)] W fun e w' => e = .returned v ∧ CurRes W B g sv bs r w'
def AlikeD (fd : FuncId) (A : Option Addr) (c B : Nat) (bs : List Nat) (v : Value) (r : Nat × Int) : Prop := ∀ (g : Nat) (W : World), RCur W g A c bs 0 0 → Seen W B 1 A bs.length c (bv bs) → B ≤ g → B ≤ W.heap.size → Calls Try.prog fd #[.pointer (some ⟨g, 0, none⟩)] W fun e w' => e = .returned v ∧ RRes W g A c bs r w'
theorem alike_local (A : Option Addr) (c B : Nat) (bs : List Nat) (hb : bs.length ≤ 1000000) (hcm : c ≤ 9223372036854775807) (h256 : ∀ x ∈ bs, x < 256) : ∃ (R : Rec) (F : Bool) (r : Nat × Int), AlikeP 16 bs (.tuple #[.agg (recC R), .bool F]) r ∧ AlikeD 17 A c B bs (.tuple #[.agg (recC R), .bool F]) r := by
  obtain ⟨m, v, x0, x1, x2, x3, x4, x5, x6, x7, x8, a1, e1, HL1⟩ := loc_ex bs 0 0 (by omega) h256
  refine ⟨recOf (nxt bs a1 (errP (m == 67324752) (locR v x0 x1 x4 x5 x6 x8) e1) x7 true) x1 x2 x3 x4 x5 x6 0, flOf (nxt bs a1 (errP (m == 67324752) (locR v x0 x1 x4 x5 x6 x8) e1) x7 true) x0, (nxt bs a1 (errP (m == 67324752) (locR v x0 x1 x4 x5 x6 x8) e1) x7 true).2, fun B' g sv W hW => ?_, fun g W hW hS hB _ => ?_⟩
  rotate_left
  · have h := rlocal_is g B A c bs 0 0 HL1 W hW hS hB hb hcm (by omega) h256
    rw [recRes_of] at h
    exact h
  · have h := readLocal_is B' g sv bs 0 0 HL1 W hW hb (by omega) h256
    rw [recRes_of] at h
    exact h
theorem alike_central (A : Option Addr) (c B : Nat) (bs : List Nat) (hb : bs.length ≤ 1000000) (hcm : c ≤ 9223372036854775807) (h256 : ∀ x ∈ bs, x < 256) : ∃ (R : Rec) (F : Bool) (r : Nat × Int), AlikeP 18 bs (.tuple #[.agg (recC R), .bool F]) r ∧ AlikeD 19 A c B bs (.tuple #[.agg (recC R), .bool F]) r := by
  obtain ⟨m', v1, v2, y0, y1, y2, y3, y4, y5, y6, y7, y8, n1, n2, n3, l0, l1, a2, e2, HL2⟩ := cen_ex bs 0 0 (by omega) h256
  refine ⟨recOf (nxt bs a2 (errP (m' == 33639248) (cenR v1 v2 y0 y1 y8 n1 n2 n3 l0) e2) y7 true) y1 y2 y3 y4 y5 y6 l1, flOf (nxt bs a2 (errP (m' == 33639248) (cenR v1 v2 y0 y1 y8 n1 n2 n3 l0) e2) y7 true) y0, (nxt bs a2 (errP (m' == 33639248) (cenR v1 v2 y0 y1 y8 n1 n2 n3 l0) e2) y7 true).2, fun B' g sv W hW => ?_, fun g W hW hS hB _ => ?_⟩
  rotate_left
  · have h := rcentral_is g B A c bs 0 0 HL2 W hW hS hB hb hcm (by omega) h256
    rw [recRes_of] at h
    exact h
  · have h := readCentral_is B' g sv bs 0 0 HL2 W hW hb (by omega) h256
    rw [recRes_of] at h
    exact h
theorem alike_behind (A : Option Addr) (c B : Nat) (bs : List Nat) (hb : bs.length ≤ 1000000) (hcm : c ≤ 9223372036854775807) (h256 : ∀ x ∈ bs, x < 256) : ∃ (R : Rec) (r : Nat × Int), AlikeP 20 bs (.agg (recC R)) r ∧ AlikeD 21 A c B bs (.agg (recC R)) r := by
  obtain ⟨b0, b1, b2, b3, a1, e1, HL⟩ := beh_ex bs 0 0 (by omega) h256
  exact ⟨_, _, fun B' g sv W hW => readBehind_is B' g sv bs 0 0 HL W hW hb (by omega) h256, fun g W hW hS hB _ => rbehind_is g B A c bs 0 0 HL W hW hS hB hb hcm (by omega) h256⟩
theorem alike_end (A : Option Addr) (c B : Nat) (bs : List Nat) (hb : bs.length ≤ 1000000) (hcm : c ≤ 9223372036854775807) (h256 : ∀ x ∈ bs, x < 256) : ∃ (u0 u1 u2 : Int) (r : Nat × Int), AlikeP 22 bs (.tuple #[.int .i64 u0, .int .i64 u1, .int .i64 u2]) r ∧ AlikeD 23 A c B bs (.tuple #[.int .i64 u0, .int .i64 u1, .int .i64 u2]) r := by
  obtain ⟨m, z0, z1, z2, z3, p0, p1, l, a1, e1, HL⟩ := end_ex bs 0 0 (by omega)
  obtain ⟨u0, u1, u2, hu⟩ := endV_form z2 p0 p1 (endE m z0 z1 z2 z3 l e1)
  refine ⟨u0, u1, u2, (a1, endE m z0 z1 z2 z3 l e1), fun B' g sv W hW => ?_, fun g W hW hS hB hB2 => ?_⟩
  rotate_left
  · have h := rend_is g B A c bs 0 0 HL W hW hS hB hb hcm (by omega) h256 hB2
    rw [hu] at h
    exact h
  · have h := readEnd_is B' g sv bs 0 0 HL W hW hb (by omega) h256
    rw [hu] at h
    exact h

/-- Both cursors stand alike. -/
structure Both (w : World) (w9 : World) (B g1 g2 : Nat) (sv : Value) (A : Option Addr) (c : Nat) (bs : List Nat) (a : Nat) (e : Int) : Prop where
  c1 : CursorAt w9 B g1 sv bs a e
  c2 : RCur w9 g2 A c bs a e
  bel : Below w.heap.size w w9
theorem Both.one {w w1 w2 : World} {B g1 g2 : Nat} {sv : Value} {A : Option Addr} {c : Nat} {bs : List Nat} {a a' : Nat} {e e' : Int} (h : Both w w1 B g1 g2 sv A c bs a e) (hr : CurRes w1 B g1 sv bs (a', e') w2) (hg : w.heap.size ≤ g1) : CursorAt w2 B g1 sv bs a' e' ∧ RCur w2 g2 A c bs a e ∧ Below w.heap.size w w2 :=
  ⟨hr.1, Whole.only h.c2 hr.2 (Whole.ne h.c2 h.c1.2.1 (by decide)), h.bel.trans (hr.2.below h.bel.size (fun k hk => by omega))⟩
theorem both_two {w w1 w2 : World} {B g1 g2 : Nat} {sv : Value} {A : Option Addr} {c : Nat} {bs : List Nat} {a a' : Nat} {e e' : Int} (h1 : CursorAt w1 B g1 sv bs a' e') (h2 : RCur w1 g2 A c bs a e) (hb : Below w.heap.size w w1) (hr : RRes w1 g2 A c bs (a', e') w2) (hg : w.heap.size ≤ g2) : Both w w2 B g1 g2 sv A c bs a' e' :=
  ⟨⟨h1.1, h1.2.1.only hr.2 (h1.2.1.ne h2 (by decide)), own_only h1.2.2 hr.2 (fun k hk => own_ne_whole h1.2.2 h2 (by decide) k hk)⟩, hr.1, hb.trans (hr.2.below hb.size (fun k hk => by omega))⟩

set_option linter.unusedSimpArgs false in
set_option maxHeartbeats 8000000 in
theorem reads_short (A : Option Addr) (n c : Nat) (bs : List Nat) (hl : bs.length = n) (h256 : ∀ x ∈ bs, x < 256) (k : Nat) (hk : k < 256) (hn : n ≤ 600) (hc : c ≤ 9223372036854775807) (w : World) (hs : Seen w w.heap.size 1 A n c (bv bs)) : Calls Try.prog 4 #[.slice A n c, .int .u8 k] w (LawPost w) := by
  subst hl
  have FX := Lib.hid (fun W => fixed_yes W)
  have hd : decide ((600 : Int) < bs.length) = false := by simp; omega
  have NC := Lib.hid (fun W (hS : Seen W w.heap.size 1 A bs.length c (bv bs)) hB => newC_any A c w.heap.size bs W hS hB (by omega))
  have hln : bs.length ≤ 1000000 := by omega
  obtain ⟨q, hq⟩ : ∃ q : Nat, k % 4 = q := ⟨_, rfl⟩
  have hq4 : q < 4 := by omega
  have kq : ((k : Int)).tmod 4 = q := by rw [Int.tmod_eq_emod_of_nonneg (by omega)]; omega
  have kq' : ((k : Int)) % 4 = q := by omega
  have kw : IntKind.u8.wrap (q : Int) = q := by
    have : IntKind.u8.wrap (q : Int) = (q : Int) % 256 := by simp [IntKind.wrap, IntKind.bits, IntKind.signed]
    omega
  have HS := Lib.hid hs
  have HA0 := Lib.hid (alike_local A c w.heap.size bs hln hc h256)
  have HA1 := Lib.hid (alike_central A c w.heap.size bs hln hc h256)
  have HA2 := Lib.hid (alike_behind A c w.heap.size bs hln hc h256)
  have HA3 := Lib.hid (alike_end A c w.heap.size bs hln hc h256)
  have EC := Lib.hid (fun B g sv a e W hW => errC_any B g sv bs a e W hW)
  have AC := Lib.hid (fun B g sv a e W hW => atC_any B g sv bs a e W hW)
  clear hs h256 hk hln hq
  go_enter Try.func4, Try.ntmps4
  go_wp2_with fail
  refine (FX.out w).mono ?_
  rintro e w1 ⟨rfl, hb⟩
  have B1 := Lib.hid hb
  have S1 := Lib.hid (HS.out.below hb)
  clear hb HS FX
  go_wp2_with fail
  refine (NC.out w1 S1.out B1.out.size).mono ?_
  rintro e w2 ⟨g1, sv1, rfl, hc2, hb2⟩
  have B2 := Lib.hid (bel_after B1.out (Nat.le_refl _) hb2)
  have S2 := Lib.hid (S1.out.below (hb2.mono B1.out.size))
  have hg1 : w.heap.size ≤ g1 := Nat.le_trans B1.out.size hc2.1
  have C3 := Lib.hid (hc2.bel ((Below.refl w2.heap.size w2).alloc (Nat.le_refl _) (.cells #[.slice A bs.length c, .int .i64 0, .int .i64 0] 39)))
  have R3 : Hid (RCur (w2.alloc (.cells #[.slice A bs.length c, .int .i64 0, .int .i64 0] 39)) w2.heap.size A c bs 0 0) := Lib.hid (Whole.new w2 39 _)
  have B3 := Lib.hid (B2.out.alloc B2.out.size (.cells #[.slice A bs.length c, .int .i64 0, .int .i64 0] 39))
  have S3 := Lib.hid (seen_alloc S2.out B2.out.size (.cells #[.slice A bs.length c, .int .i64 0, .int .i64 0] 39))
  have hg2 : w.heap.size ≤ w2.heap.size := B2.out.size
  clear hc2 hb2 S1 B1 S2 B2 NC
  go_upto_region 7 with fail
  obtain ⟨g2, hgg⟩ : ∃ g, w2.heap.size = g := ⟨_, rfl⟩
  rw [hgg] at R3 hg2 ⊢
  clear hgg
  generalize w2.alloc _ = w3 at *
  obtain ⟨BB, hBB⟩ : ∃ B, w1.heap.size = B := ⟨_, rfl⟩
  rw [hBB] at C3
  clear hBB w1
  have hz : q = 0 ∨ q = 1 ∨ q = 2 ∨ q = 3 := by omega
  rcases hz with rfl | rfl | rfl | rfl
  · obtain ⟨R, Fb, ⟨a', e'⟩, hP, hD⟩ := HA0.out
    have HP := Lib.hid hP; have HD := Lib.hid hD
    clear hP hD HA0 HA1 HA2 HA3
    go_wp2_with fail
    refine (HP.out BB g1 sv1 w3 C3.out).mono ?_
    rintro e w4 ⟨rfl, r4⟩
    obtain ⟨c4, r4', b4⟩ := Both.one ⟨C3.out, R3.out, B3.out⟩ r4 hg1
    have NW := Lib.hid (Whole.new w4 27 (recC rec0))
    have NB := Lib.hid (below_setRow ((Below.refl w4.heap.size w4).alloc (Nat.le_refl _) (.cells (recC rec0) 27)) (g := w4.heap.size) (recC R) (Nat.le_refl _))
    have P5 : Hid (RecAt _ w4.heap.size R) := Lib.hid (NW.out.setRow (recC R))
    have C5 := Lib.hid (c4.bel NB.out); have R5 := Lib.hid (RCur.bel r4' NB.out); have B5 := Lib.hid (bel_after b4 (Nat.le_refl _) NB.out)
    have S5 := Lib.hid ((S3.out.only r4.2 B3.out.size (fun k hk e => by omega)).below (NB.out.mono b4.size))
    go_upto_region 10 with (refine wpList_store_row rfl 27 (.tmp 8) (.tmp 39) rfl w4.heap.size (recC R) rfl rfl 27 (recC rec0) NW.out (rec_size R) rfl (rec_one R) ?_)
    try simp only [Act.put]
    simp only [recC, rec0] at P5 C5 R5 B5 S5 ⊢
    obtain ⟨ga, hga⟩ : ∃ g, w4.heap.size = g := ⟨_, rfl⟩
    rw [hga] at P5 C5 R5 B5 S5 ⊢
    clear NW NB c4 r4' b4 r4 hga C3 R3 B3 S3
    generalize (w4.alloc _).setRow ga _ = w5 at *
    go_wp2_with fail
    refine (HD.out g2 w5 R5.out S5.out hg2 B5.out.size).mono ?_
    rintro e w6 ⟨rfl, r6⟩
    have h6 := both_two C5.out R5.out B5.out r6 hg2
    have P6 : Hid (RecAt w6 ga R) := Lib.hid (Whole.only P5.out r6.2 (Whole.ne P5.out R5.out (by decide)))
    have NW := Lib.hid (Whole.new w6 27 (recC rec0))
    have NB := Lib.hid (below_setRow ((Below.refl w6.heap.size w6).alloc (Nat.le_refl _) (.cells (recC rec0) 27)) (g := w6.heap.size) (recC R) (Nat.le_refl _))
    have Q7 : Hid (RecAt _ w6.heap.size R) := Lib.hid (NW.out.setRow (recC R))
    have P7 := Lib.hid (P6.out.bel NB.out); have C7 := Lib.hid (h6.c1.bel NB.out); have R7 := Lib.hid (RCur.bel h6.c2 NB.out); have B7 := Lib.hid (bel_after h6.bel (Nat.le_refl _) NB.out)
    go_upto_region 11 with (refine wpList_store_row rfl 27 (.tmp 10) (.tmp 44) rfl w6.heap.size (recC R) rfl rfl 27 (recC rec0) NW.out (rec_size R) rfl (rec_one R) ?_)
    try simp only [Act.put]
    simp only [recC, rec0] at Q7 P7 C7 R7 B7 ⊢
    obtain ⟨gc, hgc⟩ : ∃ g, w6.heap.size = g := ⟨_, rfl⟩
    rw [hgc] at Q7 P7 C7 R7 B7 ⊢
    clear NW NB h6 r6 hgc P5 C5 R5 B5 S5 P6
    generalize (w6.alloc _).setRow gc _ = w7 at *
    obtain ⟨k0, k1, k2, k3, k4, k5, k6, k7⟩ := RecAt.cells P7.out
    obtain ⟨j0, j1, j2, j3, j4, j5, j6, j7⟩ := RecAt.cells Q7.out
    go_upto_region 22 with fail
    clear k0 k1 k2 k3 k4 k5 k6 k7 j0 j1 j2 j3 j4 j5 j6 j7 P7 Q7 HP HD
    by_cases he : e' = 0
    · subst he
      refine wp_region_held_drew (S := (fun W => Below w7.heap.size w7 W)) (by kernel_rfl) (Below.refl _ _).drew (fun hHeld => ?_)
      have hHeld0 := hHeld
      have C_0 := Lib.hid (CursorAt.bel C7.out hHeld0)
      have R_0 := Lib.hid (RCur.bel R7.out hHeld0)
      generalize hwd : w7.drew = wd at *
      clear hwd hHeld0
      refine wpAnyH_more (S' := fun V => Below wd.heap.size wd V) (fun V h => bel_after hHeld (Nat.le_refl _) h) _ _ _ _ ?_
      have B_0 := Lib.hid hHeld
      clear hHeld
      have hHeld : Below wd.heap.size wd wd := Below.refl _ _
      refine wpAnyH_take (i := 0) (oi := ⟨some 108, _, _, _, _, _⟩) (v := ?vka0_1) rfl (by kernel_rfl) (by kernel_rfl) (by kernel_rfl) (fun _ _ _ h => h) (Or.inl ⟨by rfl, ?hyka0_1⟩) (by assumption) ?restka0_1
      case hyka0_1 => intro W hSW; go_simp; try rfl
      try simp only [Act.put, List.setIfInBounds_toArray, List.set_cons_zero, List.set_cons_succ]
      refine wpAnyH_take (i := 1) (oi := ⟨some 109, _, _, _, _, _⟩) (v := ?vka1_2) rfl (by kernel_rfl) (by kernel_rfl) (by kernel_rfl) (fun _ _ _ h => h) (Or.inl ⟨by rfl, ?hyka1_2⟩) (by assumption) ?restka1_2
      case hyka1_2 => intro W hSW; go_simp; try rfl
      try simp only [Act.put, List.setIfInBounds_toArray, List.set_cons_zero, List.set_cons_succ]
      refine wpAnyH_take (i := 2) (oi := ⟨some 110, _, _, _, _, _⟩) (v := ?vka2_3) rfl (by kernel_rfl) (by kernel_rfl) (by kernel_rfl) (fun _ _ _ h => h) (Or.inl ⟨by rfl, ?hyka2_3⟩) (by assumption) ?restka2_3
      case hyka2_3 => intro W hSW; go_simp; try rfl
      try simp only [Act.put, List.setIfInBounds_toArray, List.set_cons_zero, List.set_cons_succ]
      refine wpAnyH_take (i := 4) (oi := ⟨some 112, _, _, _, _, _⟩) (v := ?vka4_4) rfl (by kernel_rfl) (by kernel_rfl) (by kernel_rfl) (fun _ _ _ h => h) (Or.inl ⟨by rfl, ?hyka4_4⟩) (by assumption) ?restka4_4
      case hyka4_4 => intro W hSW; go_simp; try rfl
      try simp only [Act.put, List.setIfInBounds_toArray, List.set_cons_zero, List.set_cons_succ]
      refine wpAnyH_take (i := 5) (oi := ⟨some 113, _, _, _, _, _⟩) (v := ?vka5_5) rfl (by kernel_rfl) (by kernel_rfl) (by kernel_rfl) (fun _ _ _ h => h) (Or.inl ⟨by rfl, ?hyka5_5⟩) (by assumption) ?restka5_5
      case hyka5_5 => intro W hSW; go_simp; try rfl
      try simp only [Act.put, List.setIfInBounds_toArray, List.set_cons_zero, List.set_cons_succ]
      refine wpAnyH_take (i := 6) (oi := ⟨some 114, _, _, _, _, _⟩) (v := ?vka6_6) rfl (by kernel_rfl) (by kernel_rfl) (by kernel_rfl) (fun _ _ _ h => h) (Or.inl ⟨by rfl, ?hyka6_6⟩) (by assumption) ?restka6_6
      case hyka6_6 => intro W hSW; go_simp; try rfl
      try simp only [Act.put, List.setIfInBounds_toArray, List.set_cons_zero, List.set_cons_succ]
      refine wpAnyH_take (i := 7) (oi := ⟨some 115, _, _, _, _, _⟩) (v := ?vka7_7) rfl (by kernel_rfl) (by kernel_rfl) (by kernel_rfl) (fun _ _ _ h => h) (Or.inl ⟨by rfl, ?hyka7_7⟩) (by assumption) ?restka7_7
      case hyka7_7 => intro W hSW; have c2 := (RCur.bel R_0.out hSW).c2; have c1 := (RCur.bel R_0.out hSW).c1; go_simp; try rfl
      try simp only [Act.put, List.setIfInBounds_toArray, List.set_cons_zero, List.set_cons_succ]
      refine wpAnyH_ready (rs := [3]) (by kernel_rfl) (by simp) ?_
      refine (AllReadyH.cons (o := ⟨some 111, _, _, _, _, _⟩) rfl (fun K hK => ?_) AllReadyH.nil)
      · go_simp
        refine (EC.out _ g1 sv1 _ _ wd C_0.out).mono ?_
        rintro e _ ⟨rfl, rfl⟩
        have hb := Below.refl wd.heap.size wd
        have C_8 := Lib.hid (CursorAt.bel C_0.out hb)
        have R_8 := Lib.hid (RCur.bel R_0.out hb)
        refine hK.out _ _ ?_ (fun hHeld2 => ?_)
        · exact hb
        clear hK K hHeld
        have B_8 := Lib.hid (bel_after B_0.out (Nat.le_refl _) hb)
        clear hHeld2
        try simp only [Act.put, List.setIfInBounds_toArray, List.set_cons_zero, List.set_cons_succ]
        have hHeld : Below wd.heap.size wd wd := Below.refl _ _
        clear hb
        try clear C_0
        try clear R_0
        refine wpAnyH_take (i := 8) (oi := ⟨some 116, _, _, _, _, _⟩) (v := ?vka8_9) rfl (by kernel_rfl) (by kernel_rfl) (by kernel_rfl) (fun _ _ _ h => h) (Or.inl ⟨by rfl, ?hyka8_9⟩) (by assumption) ?restka8_9
        case hyka8_9 => intro W hSW; go_simp; try rfl
        try simp only [Act.put, List.setIfInBounds_toArray, List.set_cons_zero, List.set_cons_succ]
        refine wpAnyH_take (i := 9) (oi := ⟨some 117, _, _, _, _, _⟩) (v := ?vka9_10) rfl (by kernel_rfl) (by kernel_rfl) (by kernel_rfl) (fun _ _ _ h => h) (Or.inl ⟨by rfl, ?hyka9_10⟩) (by assumption) ?restka9_10
        case hyka9_10 => intro W hSW; go_simp; try rfl
        try simp only [Act.put, List.setIfInBounds_toArray, List.set_cons_zero, List.set_cons_succ]
        refine wpAnyH_take (i := 10) (oi := ⟨some 118, _, _, _, _, _⟩) (v := ?vka10_11) rfl (by kernel_rfl) (by kernel_rfl) (by kernel_rfl) (fun _ _ _ h => h) (Or.inl ⟨by rfl, ?hyka10_11⟩) (by assumption) ?restka10_11
        case hyka10_11 => intro W hSW; go_simp; try rfl
        try simp only [Act.put, List.setIfInBounds_toArray, List.set_cons_zero, List.set_cons_succ]
        refine wpAnyH_take (i := 11) (oi := ⟨some 119, _, _, _, _, _⟩) (v := ?vka11_12) rfl (by kernel_rfl) (by kernel_rfl) (by kernel_rfl) (fun _ _ _ h => h) (Or.inl ⟨by rfl, ?hyka11_12⟩) (by assumption) ?restka11_12
        case hyka11_12 => intro W hSW; go_simp; try rfl
        try simp only [Act.put, List.setIfInBounds_toArray, List.set_cons_zero, List.set_cons_succ]
        refine wpAnyH_take (i := 12) (oi := ⟨some 120, _, _, _, _, _⟩) (v := ?vka12_13) rfl (by kernel_rfl) (by kernel_rfl) (by kernel_rfl) (fun _ _ _ h => h) (Or.inl ⟨by rfl, ?hyka12_13⟩) (by assumption) ?restka12_13
        case hyka12_13 => intro W hSW; go_simp; try rfl
        try simp only [Act.put, List.setIfInBounds_toArray, List.set_cons_zero, List.set_cons_succ]
        refine wpAnyH_take (i := 13) (oi := ⟨some 121, _, _, _, _, _⟩) (v := ?vka13_14) rfl (by kernel_rfl) (by kernel_rfl) (by kernel_rfl) (fun _ _ _ h => h) (Or.inl ⟨by rfl, ?hyka13_14⟩) (by assumption) ?restka13_14
        case hyka13_14 => intro W hSW; go_simp; try rfl
        try simp only [Act.put, List.setIfInBounds_toArray, List.set_cons_zero, List.set_cons_succ]
        refine wpAnyH_take (i := 14) (oi := ⟨some 122, _, _, _, _, _⟩) (v := ?vka14_15) rfl (by kernel_rfl) (by kernel_rfl) (by kernel_rfl) (fun _ _ _ h => h) (Or.inl ⟨by rfl, ?hyka14_15⟩) (by assumption) ?restka14_15
        case hyka14_15 => intro W hSW; have c2 := (RCur.bel R_8.out hSW).c2; have c1 := (RCur.bel R_8.out hSW).c1; go_simp; try rfl
        try simp only [Act.put, List.setIfInBounds_toArray, List.set_cons_zero, List.set_cons_succ]
        refine wpAnyH_take (i := 15) (oi := ⟨some 123, _, _, _, _, _⟩) (v := ?vka15_16) rfl (by kernel_rfl) (by kernel_rfl) (by kernel_rfl) (fun _ _ _ h => h) (Or.inl ⟨by rfl, ?hyka15_16⟩) (by assumption) ?restka15_16
        case hyka15_16 => intro W hSW; go_simp; try rfl
        try simp only [Act.put, List.setIfInBounds_toArray, List.set_cons_zero, List.set_cons_succ]
        refine wpAnyH_take (i := 16) (oi := ⟨some 124, _, _, _, _, _⟩) (v := ?vka16_17) rfl (by kernel_rfl) (by kernel_rfl) (by kernel_rfl) (fun _ _ _ h => h) (Or.inl ⟨by rfl, ?hyka16_17⟩) (by assumption) ?restka16_17
        case hyka16_17 => intro W hSW; go_simp; try rfl
        try simp only [Act.put, List.setIfInBounds_toArray, List.set_cons_zero, List.set_cons_succ]
        refine wpAnyH_take (i := 17) (oi := ⟨some 125, _, _, _, _, _⟩) (v := ?vka17_18) rfl (by kernel_rfl) (by kernel_rfl) (by kernel_rfl) (fun _ _ _ h => h) (Or.inl ⟨by rfl, ?hyka17_18⟩) (by assumption) ?restka17_18
        case hyka17_18 => intro W hSW; go_simp; try rfl
        try simp only [Act.put, List.setIfInBounds_toArray, List.set_cons_zero, List.set_cons_succ]
        refine wpAnyH_take (i := 19) (oi := ⟨some 127, _, _, _, _, _⟩) (v := ?vka19_19) rfl (by kernel_rfl) (by kernel_rfl) (by kernel_rfl) (fun _ _ _ h => h) (Or.inl ⟨by rfl, ?hyka19_19⟩) (by assumption) ?restka19_19
        case hyka19_19 => intro W hSW; go_simp; try rfl
        try simp only [Act.put, List.setIfInBounds_toArray, List.set_cons_zero, List.set_cons_succ]
        refine wpAnyH_take (i := 20) (oi := ⟨some 128, _, _, _, _, _⟩) (v := ?vka20_20) rfl (by kernel_rfl) (by kernel_rfl) (by kernel_rfl) (fun _ _ _ h => h) (Or.inl ⟨by rfl, ?hyka20_20⟩) (by assumption) ?restka20_20
        case hyka20_20 => intro W hSW; go_simp; try rfl
        try simp only [Act.put, List.setIfInBounds_toArray, List.set_cons_zero, List.set_cons_succ]
        refine wpAnyH_take (i := 21) (oi := ⟨some 129, _, _, _, _, _⟩) (v := ?vka21_21) rfl (by kernel_rfl) (by kernel_rfl) (by kernel_rfl) (fun _ _ _ h => h) (Or.inl ⟨by rfl, ?hyka21_21⟩) (by assumption) ?restka21_21
        case hyka21_21 => intro W hSW; go_simp; try rfl
        try simp only [Act.put, List.setIfInBounds_toArray, List.set_cons_zero, List.set_cons_succ]
        refine wpAnyH_take (i := 22) (oi := ⟨some 130, _, _, _, _, _⟩) (v := ?vka22_22) rfl (by kernel_rfl) (by kernel_rfl) (by kernel_rfl) (fun _ _ _ h => h) (Or.inl ⟨by rfl, ?hyka22_22⟩) (by assumption) ?restka22_22
        case hyka22_22 => intro W hSW; have c2 := (RCur.bel R_8.out hSW).c2; have c1 := (RCur.bel R_8.out hSW).c1; go_simp; try rfl
        try simp only [Act.put, List.setIfInBounds_toArray, List.set_cons_zero, List.set_cons_succ]
        refine wpAnyH_ready (rs := [18]) (by kernel_rfl) (by simp) ?_
        refine (AllReadyH.cons (o := ⟨some 126, _, _, _, _, _⟩) rfl (fun K hK => ?_) AllReadyH.nil)
        · go_simp
          refine (AC.out _ g1 sv1 _ _ wd C_8.out).mono ?_
          rintro e _ ⟨rfl, rfl⟩
          have hb := Below.refl wd.heap.size wd
          have C_23 := Lib.hid (CursorAt.bel C_8.out hb)
          have R_23 := Lib.hid (RCur.bel R_8.out hb)
          refine hK.out _ _ ?_ (fun hHeld2 => ?_)
          · exact hb
          clear hK K hHeld
          have B_23 := Lib.hid (bel_after B_8.out (Nat.le_refl _) hb)
          clear hHeld2
          try simp only [Act.put, List.setIfInBounds_toArray, List.set_cons_zero, List.set_cons_succ]
          have hHeld : Below wd.heap.size wd wd := Below.refl _ _
          clear hb
          try clear C_8
          try clear R_8
          refine wpAnyH_take (i := 23) (oi := ⟨some 131, _, _, _, _, _⟩) (v := ?vka23_24) rfl (by kernel_rfl) (by kernel_rfl) (by kernel_rfl) (fun _ _ _ h => h) (Or.inl ⟨by rfl, ?hyka23_24⟩) (by assumption) ?restka23_24
          case hyka23_24 => intro W hSW; go_simp; try rfl
          try simp only [Act.put, List.setIfInBounds_toArray, List.set_cons_zero, List.set_cons_succ]
          refine wpAnyH_take (i := 24) (oi := ⟨some 132, _, _, _, _, _⟩) (v := ?vka24_25) rfl (by kernel_rfl) (by kernel_rfl) (by kernel_rfl) (fun _ _ _ h => h) (Or.inl ⟨by rfl, ?hyka24_25⟩) (by assumption) ?restka24_25
          case hyka24_25 => intro W hSW; go_simp; try rfl
          try simp only [Act.put, List.setIfInBounds_toArray, List.set_cons_zero, List.set_cons_succ]
          refine wpAnyH_take (i := 25) (oi := ⟨some 133, _, _, _, _, _⟩) (v := ?vka25_26) rfl (by kernel_rfl) (by kernel_rfl) (by kernel_rfl) (fun _ _ _ h => h) (Or.inl ⟨by rfl, ?hyka25_26⟩) (by assumption) ?restka25_26
          case hyka25_26 => intro W hSW; go_simp; try rfl
          try simp only [Act.put, List.setIfInBounds_toArray, List.set_cons_zero, List.set_cons_succ]
          refine wpAnyH_take (i := 26) (oi := ⟨some 4, _, _, _, _, _⟩) (v := ?vka26_27) rfl (by kernel_rfl) (by kernel_rfl) (by kernel_rfl) (fun _ _ _ h => h) (Or.inl ⟨by rfl, ?hyka26_27⟩) (by assumption) ?restka26_27
          case hyka26_27 => intro W hSW; go_simp; try rfl
          try simp only [Act.put, List.setIfInBounds_toArray, List.set_cons_zero, List.set_cons_succ]
          refine wpAnyH_done (by kernel_rfl) ?_ _
          go_wp2_with fail
          go_ret
          exact ⟨rfl, B7.out.trans (B_23.out.mono B7.out.size)⟩
    · have hne : (e' != 0) = true := by simpa using he
      refine wp_region_held_drew (S := (fun W => Below w7.heap.size w7 W)) (by kernel_rfl) (Below.refl _ _).drew (fun hHeld => ?_)
      have hHeld0 := hHeld
      have C_0 := Lib.hid (CursorAt.bel C7.out hHeld0)
      have R_0 := Lib.hid (RCur.bel R7.out hHeld0)
      generalize hwd : w7.drew = wd at *
      clear hwd hHeld0
      refine wpAnyH_more (S' := fun V => Below wd.heap.size wd V) (fun V h => bel_after hHeld (Nat.le_refl _) h) _ _ _ _ ?_
      have B_0 := Lib.hid hHeld
      clear hHeld
      have hHeld : Below wd.heap.size wd wd := Below.refl _ _
      refine wpAnyH_take (i := 0) (oi := ⟨some 108, _, _, _, _, _⟩) (v := ?vkb0_1) rfl (by kernel_rfl) (by kernel_rfl) (by kernel_rfl) (fun _ _ _ h => h) (Or.inl ⟨by rfl, ?hykb0_1⟩) (by assumption) ?restkb0_1
      case hykb0_1 => intro W hSW; go_simp; try rfl
      try simp only [Act.put, List.setIfInBounds_toArray, List.set_cons_zero, List.set_cons_succ]
      refine wpAnyH_take (i := 1) (oi := ⟨some 109, _, _, _, _, _⟩) (v := ?vkb1_2) rfl (by kernel_rfl) (by kernel_rfl) (by kernel_rfl) (fun _ _ _ h => h) (Or.inl ⟨by rfl, ?hykb1_2⟩) (by assumption) ?restkb1_2
      case hykb1_2 => intro W hSW; go_simp; try rfl
      try simp only [Act.put, List.setIfInBounds_toArray, List.set_cons_zero, List.set_cons_succ]
      refine wpAnyH_take (i := 2) (oi := ⟨some 110, _, _, _, _, _⟩) (v := ?vkb2_3) rfl (by kernel_rfl) (by kernel_rfl) (by kernel_rfl) (fun _ _ _ h => h) (Or.inl ⟨by rfl, ?hykb2_3⟩) (by assumption) ?restkb2_3
      case hykb2_3 => intro W hSW; go_simp; try rfl
      try simp only [Act.put, List.setIfInBounds_toArray, List.set_cons_zero, List.set_cons_succ]
      refine wpAnyH_take (i := 4) (oi := ⟨some 112, _, _, _, _, _⟩) (v := ?vkb4_4) rfl (by kernel_rfl) (by kernel_rfl) (by kernel_rfl) (fun _ _ _ h => h) (Or.inl ⟨by rfl, ?hykb4_4⟩) (by assumption) ?restkb4_4
      case hykb4_4 => intro W hSW; go_simp; try rfl
      try simp only [Act.put, List.setIfInBounds_toArray, List.set_cons_zero, List.set_cons_succ]
      refine wpAnyH_take (i := 5) (oi := ⟨some 113, _, _, _, _, _⟩) (v := ?vkb5_5) rfl (by kernel_rfl) (by kernel_rfl) (by kernel_rfl) (fun _ _ _ h => h) (Or.inl ⟨by rfl, ?hykb5_5⟩) (by assumption) ?restkb5_5
      case hykb5_5 => intro W hSW; go_simp; try rfl
      try simp only [Act.put, List.setIfInBounds_toArray, List.set_cons_zero, List.set_cons_succ]
      refine wpAnyH_take (i := 6) (oi := ⟨some 114, _, _, _, _, _⟩) (v := ?vkb6_6) rfl (by kernel_rfl) (by kernel_rfl) (by kernel_rfl) (fun _ _ _ h => h) (Or.inl ⟨by rfl, ?hykb6_6⟩) (by assumption) ?restkb6_6
      case hykb6_6 => intro W hSW; go_simp; try rfl
      try simp only [Act.put, List.setIfInBounds_toArray, List.set_cons_zero, List.set_cons_succ]
      refine wpAnyH_take (i := 7) (oi := ⟨some 115, _, _, _, _, _⟩) (v := ?vkb7_7) rfl (by kernel_rfl) (by kernel_rfl) (by kernel_rfl) (fun _ _ _ h => h) (Or.inl ⟨by rfl, ?hykb7_7⟩) (by assumption) ?restkb7_7
      case hykb7_7 => intro W hSW; have c2 := (RCur.bel R_0.out hSW).c2; have c1 := (RCur.bel R_0.out hSW).c1; go_simp; try rfl
      try simp only [Act.put, List.setIfInBounds_toArray, List.set_cons_zero, List.set_cons_succ]
      refine wpAnyH_ready (rs := [3]) (by kernel_rfl) (by simp) ?_
      refine (AllReadyH.cons (o := ⟨some 111, _, _, _, _, _⟩) rfl (fun K hK => ?_) AllReadyH.nil)
      · go_simp
        refine (EC.out _ g1 sv1 _ _ wd C_0.out).mono ?_
        rintro e _ ⟨rfl, rfl⟩
        have hb := Below.refl wd.heap.size wd
        have C_8 := Lib.hid (CursorAt.bel C_0.out hb)
        have R_8 := Lib.hid (RCur.bel R_0.out hb)
        refine hK.out _ _ ?_ (fun hHeld2 => ?_)
        · exact hb
        clear hK K hHeld
        have B_8 := Lib.hid (bel_after B_0.out (Nat.le_refl _) hb)
        clear hHeld2
        try simp only [Act.put, List.setIfInBounds_toArray, List.set_cons_zero, List.set_cons_succ]
        have hHeld : Below wd.heap.size wd wd := Below.refl _ _
        clear hb
        try clear C_0
        try clear R_0
        refine wpAnyH_take (i := 8) (oi := ⟨some 116, _, _, _, _, _⟩) (v := ?vkb8_9) rfl (by kernel_rfl) (by kernel_rfl) (by kernel_rfl) (fun _ _ _ h => h) (Or.inl ⟨by rfl, ?hykb8_9⟩) (by assumption) ?restkb8_9
        case hykb8_9 => intro W hSW; go_simp; try rfl
        try simp only [Act.put, List.setIfInBounds_toArray, List.set_cons_zero, List.set_cons_succ]
        refine wpAnyH_take (i := 9) (oi := ⟨some 117, _, _, _, _, _⟩) (v := ?vkb9_10) rfl (by kernel_rfl) (by kernel_rfl) (by kernel_rfl) (fun _ _ _ h => h) (Or.inl ⟨by rfl, ?hykb9_10⟩) (by assumption) ?restkb9_10
        case hykb9_10 => intro W hSW; go_simp; try rfl
        try simp only [Act.put, List.setIfInBounds_toArray, List.set_cons_zero, List.set_cons_succ]
        refine wpAnyH_take (i := 10) (oi := ⟨some 118, _, _, _, _, _⟩) (v := ?vkb10_11) rfl (by kernel_rfl) (by kernel_rfl) (by kernel_rfl) (fun _ _ _ h => h) (Or.inl ⟨by rfl, ?hykb10_11⟩) (by assumption) ?restkb10_11
        case hykb10_11 => intro W hSW; go_simp; try rfl
        try simp only [Act.put, List.setIfInBounds_toArray, List.set_cons_zero, List.set_cons_succ]
        refine wpAnyH_take (i := 11) (oi := ⟨some 119, _, _, _, _, _⟩) (v := ?vkb11_12) rfl (by kernel_rfl) (by kernel_rfl) (by kernel_rfl) (fun _ _ _ h => h) (Or.inl ⟨by rfl, ?hykb11_12⟩) (by assumption) ?restkb11_12
        case hykb11_12 => intro W hSW; go_simp; try rfl
        try simp only [Act.put, List.setIfInBounds_toArray, List.set_cons_zero, List.set_cons_succ]
        refine wpAnyH_take (i := 12) (oi := ⟨some 120, _, _, _, _, _⟩) (v := ?vkb12_13) rfl (by kernel_rfl) (by kernel_rfl) (by kernel_rfl) (fun _ _ _ h => h) (Or.inl ⟨by rfl, ?hykb12_13⟩) (by assumption) ?restkb12_13
        case hykb12_13 => intro W hSW; go_simp; try rfl
        try simp only [Act.put, List.setIfInBounds_toArray, List.set_cons_zero, List.set_cons_succ]
        refine wpAnyH_take (i := 13) (oi := ⟨some 121, _, _, _, _, _⟩) (v := ?vkb13_14) rfl (by kernel_rfl) (by kernel_rfl) (by kernel_rfl) (fun _ _ _ h => h) (Or.inl ⟨by rfl, ?hykb13_14⟩) (by assumption) ?restkb13_14
        case hykb13_14 => intro W hSW; go_simp; try rfl
        try simp only [Act.put, List.setIfInBounds_toArray, List.set_cons_zero, List.set_cons_succ]
        refine wpAnyH_take (i := 14) (oi := ⟨some 122, _, _, _, _, _⟩) (v := ?vkb14_15) rfl (by kernel_rfl) (by kernel_rfl) (by kernel_rfl) (fun _ _ _ h => h) (Or.inl ⟨by rfl, ?hykb14_15⟩) (by assumption) ?restkb14_15
        case hykb14_15 => intro W hSW; have c2 := (RCur.bel R_8.out hSW).c2; have c1 := (RCur.bel R_8.out hSW).c1; go_simp; try rfl
        try simp only [Act.put, List.setIfInBounds_toArray, List.set_cons_zero, List.set_cons_succ]
        refine wpAnyH_take (i := 15) (oi := ⟨some 123, _, _, _, _, _⟩) (v := ?vkb15_16) rfl (by kernel_rfl) (by kernel_rfl) (by kernel_rfl) (fun _ _ _ h => h) (Or.inl ⟨by rfl, ?hykb15_16⟩) (by assumption) ?restkb15_16
        case hykb15_16 => intro W hSW; go_simp; try rfl
        try simp only [Act.put, List.setIfInBounds_toArray, List.set_cons_zero, List.set_cons_succ]
        refine wpAnyH_take (i := 16) (oi := ⟨some 124, _, _, _, _, _⟩) (v := ?vkb16_17) rfl (by kernel_rfl) (by kernel_rfl) (by kernel_rfl) (fun _ _ _ h => h) (Or.inl ⟨by rfl, ?hykb16_17⟩) (by assumption) ?restkb16_17
        case hykb16_17 => intro W hSW; go_simp; try rfl
        try simp only [Act.put, List.setIfInBounds_toArray, List.set_cons_zero, List.set_cons_succ]
        refine wpAnyH_take (i := 17) (oi := ⟨some 125, _, _, _, _, _⟩) (v := undef) rfl (by kernel_rfl) (by kernel_rfl) (by kernel_rfl) (fun _ _ _ h => h) (Or.inr ⟨by rfl, rfl⟩) (by assumption) ?restkb17_18
        try simp only [Act.put, List.setIfInBounds_toArray, List.set_cons_zero, List.set_cons_succ]
        refine wpAnyH_take (i := 18) (oi := ⟨some 126, _, _, _, _, _⟩) (v := undef) rfl (by kernel_rfl) (by kernel_rfl) (by kernel_rfl) (fun _ _ _ h => h) (Or.inr ⟨by rfl, rfl⟩) (by assumption) ?restkb18_19
        try simp only [Act.put, List.setIfInBounds_toArray, List.set_cons_zero, List.set_cons_succ]
        refine wpAnyH_take (i := 19) (oi := ⟨some 127, _, _, _, _, _⟩) (v := undef) rfl (by kernel_rfl) (by kernel_rfl) (by kernel_rfl) (fun _ _ _ h => h) (Or.inr ⟨by rfl, rfl⟩) (by assumption) ?restkb19_20
        try simp only [Act.put, List.setIfInBounds_toArray, List.set_cons_zero, List.set_cons_succ]
        refine wpAnyH_take (i := 20) (oi := ⟨some 128, _, _, _, _, _⟩) (v := undef) rfl (by kernel_rfl) (by kernel_rfl) (by kernel_rfl) (fun _ _ _ h => h) (Or.inr ⟨by rfl, rfl⟩) (by assumption) ?restkb20_21
        try simp only [Act.put, List.setIfInBounds_toArray, List.set_cons_zero, List.set_cons_succ]
        refine wpAnyH_take (i := 21) (oi := ⟨some 129, _, _, _, _, _⟩) (v := undef) rfl (by kernel_rfl) (by kernel_rfl) (by kernel_rfl) (fun _ _ _ h => h) (Or.inr ⟨by rfl, rfl⟩) (by assumption) ?restkb21_22
        try simp only [Act.put, List.setIfInBounds_toArray, List.set_cons_zero, List.set_cons_succ]
        refine wpAnyH_take (i := 22) (oi := ⟨some 130, _, _, _, _, _⟩) (v := undef) rfl (by kernel_rfl) (by kernel_rfl) (by kernel_rfl) (fun _ _ _ h => h) (Or.inr ⟨by rfl, rfl⟩) (by assumption) ?restkb22_23
        try simp only [Act.put, List.setIfInBounds_toArray, List.set_cons_zero, List.set_cons_succ]
        refine wpAnyH_take (i := 23) (oi := ⟨some 131, _, _, _, _, _⟩) (v := undef) rfl (by kernel_rfl) (by kernel_rfl) (by kernel_rfl) (fun _ _ _ h => h) (Or.inr ⟨by rfl, rfl⟩) (by assumption) ?restkb23_24
        try simp only [Act.put, List.setIfInBounds_toArray, List.set_cons_zero, List.set_cons_succ]
        refine wpAnyH_take (i := 24) (oi := ⟨some 132, _, _, _, _, _⟩) (v := ?vkb24_25) rfl (by kernel_rfl) (by kernel_rfl) (by kernel_rfl) (fun _ _ _ h => h) (Or.inl ⟨by rfl, ?hykb24_25⟩) (by assumption) ?restkb24_25
        case hykb24_25 => intro W hSW; go_simp; try rfl
        try simp only [Act.put, List.setIfInBounds_toArray, List.set_cons_zero, List.set_cons_succ]
        refine wpAnyH_take (i := 25) (oi := ⟨some 133, _, _, _, _, _⟩) (v := ?vkb25_26) rfl (by kernel_rfl) (by kernel_rfl) (by kernel_rfl) (fun _ _ _ h => h) (Or.inl ⟨by rfl, ?hykb25_26⟩) (by assumption) ?restkb25_26
        case hykb25_26 => intro W hSW; go_simp; try rfl
        try simp only [Act.put, List.setIfInBounds_toArray, List.set_cons_zero, List.set_cons_succ]
        refine wpAnyH_take (i := 26) (oi := ⟨some 4, _, _, _, _, _⟩) (v := ?vkb26_27) rfl (by kernel_rfl) (by kernel_rfl) (by kernel_rfl) (fun _ _ _ h => h) (Or.inl ⟨by rfl, ?hykb26_27⟩) (by assumption) ?restkb26_27
        case hykb26_27 => intro W hSW; go_simp; try rfl
        try simp only [Act.put, List.setIfInBounds_toArray, List.set_cons_zero, List.set_cons_succ]
        refine wpAnyH_done (by kernel_rfl) ?_ _
        go_wp2_with fail
        go_ret
        exact ⟨rfl, B7.out.trans (B_8.out.mono B7.out.size)⟩
  · obtain ⟨R, Fb, ⟨a', e'⟩, hP, hD⟩ := HA1.out
    have HP := Lib.hid hP; have HD := Lib.hid hD
    clear hP hD HA0 HA1 HA2 HA3
    go_wp2_with fail
    refine (HP.out BB g1 sv1 w3 C3.out).mono ?_
    rintro e w4 ⟨rfl, r4⟩
    obtain ⟨c4, r4', b4⟩ := Both.one ⟨C3.out, R3.out, B3.out⟩ r4 hg1
    have NW := Lib.hid (Whole.new w4 27 (recC rec0))
    have NB := Lib.hid (below_setRow ((Below.refl w4.heap.size w4).alloc (Nat.le_refl _) (.cells (recC rec0) 27)) (g := w4.heap.size) (recC R) (Nat.le_refl _))
    have P5 : Hid (RecAt _ w4.heap.size R) := Lib.hid (NW.out.setRow (recC R))
    have C5 := Lib.hid (c4.bel NB.out); have R5 := Lib.hid (RCur.bel r4' NB.out); have B5 := Lib.hid (bel_after b4 (Nat.le_refl _) NB.out)
    have S5 := Lib.hid ((S3.out.only r4.2 B3.out.size (fun k hk e => by omega)).below (NB.out.mono b4.size))
    go_upto_region 14 with (refine wpList_store_row rfl 27 (.tmp 12) (.tmp 59) rfl w4.heap.size (recC R) rfl rfl 27 (recC rec0) NW.out (rec_size R) rfl (rec_one R) ?_)
    try simp only [Act.put]
    simp only [recC, rec0] at P5 C5 R5 B5 S5 ⊢
    obtain ⟨ga, hga⟩ : ∃ g, w4.heap.size = g := ⟨_, rfl⟩
    rw [hga] at P5 C5 R5 B5 S5 ⊢
    clear NW NB c4 r4' b4 r4 hga C3 R3 B3 S3
    generalize (w4.alloc _).setRow ga _ = w5 at *
    go_wp2_with fail
    refine (HD.out g2 w5 R5.out S5.out hg2 B5.out.size).mono ?_
    rintro e w6 ⟨rfl, r6⟩
    have h6 := both_two C5.out R5.out B5.out r6 hg2
    have P6 : Hid (RecAt w6 ga R) := Lib.hid (Whole.only P5.out r6.2 (Whole.ne P5.out R5.out (by decide)))
    have NW := Lib.hid (Whole.new w6 27 (recC rec0))
    have NB := Lib.hid (below_setRow ((Below.refl w6.heap.size w6).alloc (Nat.le_refl _) (.cells (recC rec0) 27)) (g := w6.heap.size) (recC R) (Nat.le_refl _))
    have Q7 : Hid (RecAt _ w6.heap.size R) := Lib.hid (NW.out.setRow (recC R))
    have P7 := Lib.hid (P6.out.bel NB.out); have C7 := Lib.hid (h6.c1.bel NB.out); have R7 := Lib.hid (RCur.bel h6.c2 NB.out); have B7 := Lib.hid (bel_after h6.bel (Nat.le_refl _) NB.out)
    go_upto_region 15 with (refine wpList_store_row rfl 27 (.tmp 14) (.tmp 64) rfl w6.heap.size (recC R) rfl rfl 27 (recC rec0) NW.out (rec_size R) rfl (rec_one R) ?_)
    try simp only [Act.put]
    simp only [recC, rec0] at Q7 P7 C7 R7 B7 ⊢
    obtain ⟨gc, hgc⟩ : ∃ g, w6.heap.size = g := ⟨_, rfl⟩
    rw [hgc] at Q7 P7 C7 R7 B7 ⊢
    clear NW NB h6 r6 hgc P5 C5 R5 B5 S5 P6
    generalize (w6.alloc _).setRow gc _ = w7 at *
    obtain ⟨k0, k1, k2, k3, k4, k5, k6, k7⟩ := RecAt.cells P7.out
    obtain ⟨j0, j1, j2, j3, j4, j5, j6, j7⟩ := RecAt.cells Q7.out
    go_upto_region 22 with fail
    clear k0 k1 k2 k3 k4 k5 k6 k7 j0 j1 j2 j3 j4 j5 j6 j7 P7 Q7 HP HD
    by_cases he : e' = 0
    · subst he
      refine wp_region_held_drew (S := (fun W => Below w7.heap.size w7 W)) (by kernel_rfl) (Below.refl _ _).drew (fun hHeld => ?_)
      have hHeld0 := hHeld
      have C_0 := Lib.hid (CursorAt.bel C7.out hHeld0)
      have R_0 := Lib.hid (RCur.bel R7.out hHeld0)
      generalize hwd : w7.drew = wd at *
      clear hwd hHeld0
      refine wpAnyH_more (S' := fun V => Below wd.heap.size wd V) (fun V h => bel_after hHeld (Nat.le_refl _) h) _ _ _ _ ?_
      have B_0 := Lib.hid hHeld
      clear hHeld
      have hHeld : Below wd.heap.size wd wd := Below.refl _ _
      refine wpAnyH_take (i := 0) (oi := ⟨some 108, _, _, _, _, _⟩) (v := ?vla0_1) rfl (by kernel_rfl) (by kernel_rfl) (by kernel_rfl) (fun _ _ _ h => h) (Or.inl ⟨by rfl, ?hyla0_1⟩) (by assumption) ?restla0_1
      case hyla0_1 => intro W hSW; go_simp; try rfl
      try simp only [Act.put, List.setIfInBounds_toArray, List.set_cons_zero, List.set_cons_succ]
      refine wpAnyH_take (i := 1) (oi := ⟨some 109, _, _, _, _, _⟩) (v := ?vla1_2) rfl (by kernel_rfl) (by kernel_rfl) (by kernel_rfl) (fun _ _ _ h => h) (Or.inl ⟨by rfl, ?hyla1_2⟩) (by assumption) ?restla1_2
      case hyla1_2 => intro W hSW; go_simp; try rfl
      try simp only [Act.put, List.setIfInBounds_toArray, List.set_cons_zero, List.set_cons_succ]
      refine wpAnyH_take (i := 2) (oi := ⟨some 110, _, _, _, _, _⟩) (v := ?vla2_3) rfl (by kernel_rfl) (by kernel_rfl) (by kernel_rfl) (fun _ _ _ h => h) (Or.inl ⟨by rfl, ?hyla2_3⟩) (by assumption) ?restla2_3
      case hyla2_3 => intro W hSW; go_simp; try rfl
      try simp only [Act.put, List.setIfInBounds_toArray, List.set_cons_zero, List.set_cons_succ]
      refine wpAnyH_take (i := 4) (oi := ⟨some 112, _, _, _, _, _⟩) (v := ?vla4_4) rfl (by kernel_rfl) (by kernel_rfl) (by kernel_rfl) (fun _ _ _ h => h) (Or.inl ⟨by rfl, ?hyla4_4⟩) (by assumption) ?restla4_4
      case hyla4_4 => intro W hSW; go_simp; try rfl
      try simp only [Act.put, List.setIfInBounds_toArray, List.set_cons_zero, List.set_cons_succ]
      refine wpAnyH_take (i := 5) (oi := ⟨some 113, _, _, _, _, _⟩) (v := ?vla5_5) rfl (by kernel_rfl) (by kernel_rfl) (by kernel_rfl) (fun _ _ _ h => h) (Or.inl ⟨by rfl, ?hyla5_5⟩) (by assumption) ?restla5_5
      case hyla5_5 => intro W hSW; go_simp; try rfl
      try simp only [Act.put, List.setIfInBounds_toArray, List.set_cons_zero, List.set_cons_succ]
      refine wpAnyH_take (i := 6) (oi := ⟨some 114, _, _, _, _, _⟩) (v := ?vla6_6) rfl (by kernel_rfl) (by kernel_rfl) (by kernel_rfl) (fun _ _ _ h => h) (Or.inl ⟨by rfl, ?hyla6_6⟩) (by assumption) ?restla6_6
      case hyla6_6 => intro W hSW; go_simp; try rfl
      try simp only [Act.put, List.setIfInBounds_toArray, List.set_cons_zero, List.set_cons_succ]
      refine wpAnyH_take (i := 7) (oi := ⟨some 115, _, _, _, _, _⟩) (v := ?vla7_7) rfl (by kernel_rfl) (by kernel_rfl) (by kernel_rfl) (fun _ _ _ h => h) (Or.inl ⟨by rfl, ?hyla7_7⟩) (by assumption) ?restla7_7
      case hyla7_7 => intro W hSW; have c2 := (RCur.bel R_0.out hSW).c2; have c1 := (RCur.bel R_0.out hSW).c1; go_simp; try rfl
      try simp only [Act.put, List.setIfInBounds_toArray, List.set_cons_zero, List.set_cons_succ]
      refine wpAnyH_ready (rs := [3]) (by kernel_rfl) (by simp) ?_
      refine (AllReadyH.cons (o := ⟨some 111, _, _, _, _, _⟩) rfl (fun K hK => ?_) AllReadyH.nil)
      · go_simp
        refine (EC.out _ g1 sv1 _ _ wd C_0.out).mono ?_
        rintro e _ ⟨rfl, rfl⟩
        have hb := Below.refl wd.heap.size wd
        have C_8 := Lib.hid (CursorAt.bel C_0.out hb)
        have R_8 := Lib.hid (RCur.bel R_0.out hb)
        refine hK.out _ _ ?_ (fun hHeld2 => ?_)
        · exact hb
        clear hK K hHeld
        have B_8 := Lib.hid (bel_after B_0.out (Nat.le_refl _) hb)
        clear hHeld2
        try simp only [Act.put, List.setIfInBounds_toArray, List.set_cons_zero, List.set_cons_succ]
        have hHeld : Below wd.heap.size wd wd := Below.refl _ _
        clear hb
        try clear C_0
        try clear R_0
        refine wpAnyH_take (i := 8) (oi := ⟨some 116, _, _, _, _, _⟩) (v := ?vla8_9) rfl (by kernel_rfl) (by kernel_rfl) (by kernel_rfl) (fun _ _ _ h => h) (Or.inl ⟨by rfl, ?hyla8_9⟩) (by assumption) ?restla8_9
        case hyla8_9 => intro W hSW; go_simp; try rfl
        try simp only [Act.put, List.setIfInBounds_toArray, List.set_cons_zero, List.set_cons_succ]
        refine wpAnyH_take (i := 9) (oi := ⟨some 117, _, _, _, _, _⟩) (v := ?vla9_10) rfl (by kernel_rfl) (by kernel_rfl) (by kernel_rfl) (fun _ _ _ h => h) (Or.inl ⟨by rfl, ?hyla9_10⟩) (by assumption) ?restla9_10
        case hyla9_10 => intro W hSW; go_simp; try rfl
        try simp only [Act.put, List.setIfInBounds_toArray, List.set_cons_zero, List.set_cons_succ]
        refine wpAnyH_take (i := 10) (oi := ⟨some 118, _, _, _, _, _⟩) (v := ?vla10_11) rfl (by kernel_rfl) (by kernel_rfl) (by kernel_rfl) (fun _ _ _ h => h) (Or.inl ⟨by rfl, ?hyla10_11⟩) (by assumption) ?restla10_11
        case hyla10_11 => intro W hSW; go_simp; try rfl
        try simp only [Act.put, List.setIfInBounds_toArray, List.set_cons_zero, List.set_cons_succ]
        refine wpAnyH_take (i := 11) (oi := ⟨some 119, _, _, _, _, _⟩) (v := ?vla11_12) rfl (by kernel_rfl) (by kernel_rfl) (by kernel_rfl) (fun _ _ _ h => h) (Or.inl ⟨by rfl, ?hyla11_12⟩) (by assumption) ?restla11_12
        case hyla11_12 => intro W hSW; go_simp; try rfl
        try simp only [Act.put, List.setIfInBounds_toArray, List.set_cons_zero, List.set_cons_succ]
        refine wpAnyH_take (i := 12) (oi := ⟨some 120, _, _, _, _, _⟩) (v := ?vla12_13) rfl (by kernel_rfl) (by kernel_rfl) (by kernel_rfl) (fun _ _ _ h => h) (Or.inl ⟨by rfl, ?hyla12_13⟩) (by assumption) ?restla12_13
        case hyla12_13 => intro W hSW; go_simp; try rfl
        try simp only [Act.put, List.setIfInBounds_toArray, List.set_cons_zero, List.set_cons_succ]
        refine wpAnyH_take (i := 13) (oi := ⟨some 121, _, _, _, _, _⟩) (v := ?vla13_14) rfl (by kernel_rfl) (by kernel_rfl) (by kernel_rfl) (fun _ _ _ h => h) (Or.inl ⟨by rfl, ?hyla13_14⟩) (by assumption) ?restla13_14
        case hyla13_14 => intro W hSW; go_simp; try rfl
        try simp only [Act.put, List.setIfInBounds_toArray, List.set_cons_zero, List.set_cons_succ]
        refine wpAnyH_take (i := 14) (oi := ⟨some 122, _, _, _, _, _⟩) (v := ?vla14_15) rfl (by kernel_rfl) (by kernel_rfl) (by kernel_rfl) (fun _ _ _ h => h) (Or.inl ⟨by rfl, ?hyla14_15⟩) (by assumption) ?restla14_15
        case hyla14_15 => intro W hSW; have c2 := (RCur.bel R_8.out hSW).c2; have c1 := (RCur.bel R_8.out hSW).c1; go_simp; try rfl
        try simp only [Act.put, List.setIfInBounds_toArray, List.set_cons_zero, List.set_cons_succ]
        refine wpAnyH_take (i := 15) (oi := ⟨some 123, _, _, _, _, _⟩) (v := ?vla15_16) rfl (by kernel_rfl) (by kernel_rfl) (by kernel_rfl) (fun _ _ _ h => h) (Or.inl ⟨by rfl, ?hyla15_16⟩) (by assumption) ?restla15_16
        case hyla15_16 => intro W hSW; go_simp; try rfl
        try simp only [Act.put, List.setIfInBounds_toArray, List.set_cons_zero, List.set_cons_succ]
        refine wpAnyH_take (i := 16) (oi := ⟨some 124, _, _, _, _, _⟩) (v := ?vla16_17) rfl (by kernel_rfl) (by kernel_rfl) (by kernel_rfl) (fun _ _ _ h => h) (Or.inl ⟨by rfl, ?hyla16_17⟩) (by assumption) ?restla16_17
        case hyla16_17 => intro W hSW; go_simp; try rfl
        try simp only [Act.put, List.setIfInBounds_toArray, List.set_cons_zero, List.set_cons_succ]
        refine wpAnyH_take (i := 17) (oi := ⟨some 125, _, _, _, _, _⟩) (v := ?vla17_18) rfl (by kernel_rfl) (by kernel_rfl) (by kernel_rfl) (fun _ _ _ h => h) (Or.inl ⟨by rfl, ?hyla17_18⟩) (by assumption) ?restla17_18
        case hyla17_18 => intro W hSW; go_simp; try rfl
        try simp only [Act.put, List.setIfInBounds_toArray, List.set_cons_zero, List.set_cons_succ]
        refine wpAnyH_take (i := 19) (oi := ⟨some 127, _, _, _, _, _⟩) (v := ?vla19_19) rfl (by kernel_rfl) (by kernel_rfl) (by kernel_rfl) (fun _ _ _ h => h) (Or.inl ⟨by rfl, ?hyla19_19⟩) (by assumption) ?restla19_19
        case hyla19_19 => intro W hSW; go_simp; try rfl
        try simp only [Act.put, List.setIfInBounds_toArray, List.set_cons_zero, List.set_cons_succ]
        refine wpAnyH_take (i := 20) (oi := ⟨some 128, _, _, _, _, _⟩) (v := ?vla20_20) rfl (by kernel_rfl) (by kernel_rfl) (by kernel_rfl) (fun _ _ _ h => h) (Or.inl ⟨by rfl, ?hyla20_20⟩) (by assumption) ?restla20_20
        case hyla20_20 => intro W hSW; go_simp; try rfl
        try simp only [Act.put, List.setIfInBounds_toArray, List.set_cons_zero, List.set_cons_succ]
        refine wpAnyH_take (i := 21) (oi := ⟨some 129, _, _, _, _, _⟩) (v := ?vla21_21) rfl (by kernel_rfl) (by kernel_rfl) (by kernel_rfl) (fun _ _ _ h => h) (Or.inl ⟨by rfl, ?hyla21_21⟩) (by assumption) ?restla21_21
        case hyla21_21 => intro W hSW; go_simp; try rfl
        try simp only [Act.put, List.setIfInBounds_toArray, List.set_cons_zero, List.set_cons_succ]
        refine wpAnyH_take (i := 22) (oi := ⟨some 130, _, _, _, _, _⟩) (v := ?vla22_22) rfl (by kernel_rfl) (by kernel_rfl) (by kernel_rfl) (fun _ _ _ h => h) (Or.inl ⟨by rfl, ?hyla22_22⟩) (by assumption) ?restla22_22
        case hyla22_22 => intro W hSW; have c2 := (RCur.bel R_8.out hSW).c2; have c1 := (RCur.bel R_8.out hSW).c1; go_simp; try rfl
        try simp only [Act.put, List.setIfInBounds_toArray, List.set_cons_zero, List.set_cons_succ]
        refine wpAnyH_ready (rs := [18]) (by kernel_rfl) (by simp) ?_
        refine (AllReadyH.cons (o := ⟨some 126, _, _, _, _, _⟩) rfl (fun K hK => ?_) AllReadyH.nil)
        · go_simp
          refine (AC.out _ g1 sv1 _ _ wd C_8.out).mono ?_
          rintro e _ ⟨rfl, rfl⟩
          have hb := Below.refl wd.heap.size wd
          have C_23 := Lib.hid (CursorAt.bel C_8.out hb)
          have R_23 := Lib.hid (RCur.bel R_8.out hb)
          refine hK.out _ _ ?_ (fun hHeld2 => ?_)
          · exact hb
          clear hK K hHeld
          have B_23 := Lib.hid (bel_after B_8.out (Nat.le_refl _) hb)
          clear hHeld2
          try simp only [Act.put, List.setIfInBounds_toArray, List.set_cons_zero, List.set_cons_succ]
          have hHeld : Below wd.heap.size wd wd := Below.refl _ _
          clear hb
          try clear C_8
          try clear R_8
          refine wpAnyH_take (i := 23) (oi := ⟨some 131, _, _, _, _, _⟩) (v := ?vla23_24) rfl (by kernel_rfl) (by kernel_rfl) (by kernel_rfl) (fun _ _ _ h => h) (Or.inl ⟨by rfl, ?hyla23_24⟩) (by assumption) ?restla23_24
          case hyla23_24 => intro W hSW; go_simp; try rfl
          try simp only [Act.put, List.setIfInBounds_toArray, List.set_cons_zero, List.set_cons_succ]
          refine wpAnyH_take (i := 24) (oi := ⟨some 132, _, _, _, _, _⟩) (v := ?vla24_25) rfl (by kernel_rfl) (by kernel_rfl) (by kernel_rfl) (fun _ _ _ h => h) (Or.inl ⟨by rfl, ?hyla24_25⟩) (by assumption) ?restla24_25
          case hyla24_25 => intro W hSW; go_simp; try rfl
          try simp only [Act.put, List.setIfInBounds_toArray, List.set_cons_zero, List.set_cons_succ]
          refine wpAnyH_take (i := 25) (oi := ⟨some 133, _, _, _, _, _⟩) (v := ?vla25_26) rfl (by kernel_rfl) (by kernel_rfl) (by kernel_rfl) (fun _ _ _ h => h) (Or.inl ⟨by rfl, ?hyla25_26⟩) (by assumption) ?restla25_26
          case hyla25_26 => intro W hSW; go_simp; try rfl
          try simp only [Act.put, List.setIfInBounds_toArray, List.set_cons_zero, List.set_cons_succ]
          refine wpAnyH_take (i := 26) (oi := ⟨some 4, _, _, _, _, _⟩) (v := ?vla26_27) rfl (by kernel_rfl) (by kernel_rfl) (by kernel_rfl) (fun _ _ _ h => h) (Or.inl ⟨by rfl, ?hyla26_27⟩) (by assumption) ?restla26_27
          case hyla26_27 => intro W hSW; go_simp; try rfl
          try simp only [Act.put, List.setIfInBounds_toArray, List.set_cons_zero, List.set_cons_succ]
          refine wpAnyH_done (by kernel_rfl) ?_ _
          go_wp2_with fail
          go_ret
          exact ⟨rfl, B7.out.trans (B_23.out.mono B7.out.size)⟩
    · have hne : (e' != 0) = true := by simpa using he
      refine wp_region_held_drew (S := (fun W => Below w7.heap.size w7 W)) (by kernel_rfl) (Below.refl _ _).drew (fun hHeld => ?_)
      have hHeld0 := hHeld
      have C_0 := Lib.hid (CursorAt.bel C7.out hHeld0)
      have R_0 := Lib.hid (RCur.bel R7.out hHeld0)
      generalize hwd : w7.drew = wd at *
      clear hwd hHeld0
      refine wpAnyH_more (S' := fun V => Below wd.heap.size wd V) (fun V h => bel_after hHeld (Nat.le_refl _) h) _ _ _ _ ?_
      have B_0 := Lib.hid hHeld
      clear hHeld
      have hHeld : Below wd.heap.size wd wd := Below.refl _ _
      refine wpAnyH_take (i := 0) (oi := ⟨some 108, _, _, _, _, _⟩) (v := ?vlb0_1) rfl (by kernel_rfl) (by kernel_rfl) (by kernel_rfl) (fun _ _ _ h => h) (Or.inl ⟨by rfl, ?hylb0_1⟩) (by assumption) ?restlb0_1
      case hylb0_1 => intro W hSW; go_simp; try rfl
      try simp only [Act.put, List.setIfInBounds_toArray, List.set_cons_zero, List.set_cons_succ]
      refine wpAnyH_take (i := 1) (oi := ⟨some 109, _, _, _, _, _⟩) (v := ?vlb1_2) rfl (by kernel_rfl) (by kernel_rfl) (by kernel_rfl) (fun _ _ _ h => h) (Or.inl ⟨by rfl, ?hylb1_2⟩) (by assumption) ?restlb1_2
      case hylb1_2 => intro W hSW; go_simp; try rfl
      try simp only [Act.put, List.setIfInBounds_toArray, List.set_cons_zero, List.set_cons_succ]
      refine wpAnyH_take (i := 2) (oi := ⟨some 110, _, _, _, _, _⟩) (v := ?vlb2_3) rfl (by kernel_rfl) (by kernel_rfl) (by kernel_rfl) (fun _ _ _ h => h) (Or.inl ⟨by rfl, ?hylb2_3⟩) (by assumption) ?restlb2_3
      case hylb2_3 => intro W hSW; go_simp; try rfl
      try simp only [Act.put, List.setIfInBounds_toArray, List.set_cons_zero, List.set_cons_succ]
      refine wpAnyH_take (i := 4) (oi := ⟨some 112, _, _, _, _, _⟩) (v := ?vlb4_4) rfl (by kernel_rfl) (by kernel_rfl) (by kernel_rfl) (fun _ _ _ h => h) (Or.inl ⟨by rfl, ?hylb4_4⟩) (by assumption) ?restlb4_4
      case hylb4_4 => intro W hSW; go_simp; try rfl
      try simp only [Act.put, List.setIfInBounds_toArray, List.set_cons_zero, List.set_cons_succ]
      refine wpAnyH_take (i := 5) (oi := ⟨some 113, _, _, _, _, _⟩) (v := ?vlb5_5) rfl (by kernel_rfl) (by kernel_rfl) (by kernel_rfl) (fun _ _ _ h => h) (Or.inl ⟨by rfl, ?hylb5_5⟩) (by assumption) ?restlb5_5
      case hylb5_5 => intro W hSW; go_simp; try rfl
      try simp only [Act.put, List.setIfInBounds_toArray, List.set_cons_zero, List.set_cons_succ]
      refine wpAnyH_take (i := 6) (oi := ⟨some 114, _, _, _, _, _⟩) (v := ?vlb6_6) rfl (by kernel_rfl) (by kernel_rfl) (by kernel_rfl) (fun _ _ _ h => h) (Or.inl ⟨by rfl, ?hylb6_6⟩) (by assumption) ?restlb6_6
      case hylb6_6 => intro W hSW; go_simp; try rfl
      try simp only [Act.put, List.setIfInBounds_toArray, List.set_cons_zero, List.set_cons_succ]
      refine wpAnyH_take (i := 7) (oi := ⟨some 115, _, _, _, _, _⟩) (v := ?vlb7_7) rfl (by kernel_rfl) (by kernel_rfl) (by kernel_rfl) (fun _ _ _ h => h) (Or.inl ⟨by rfl, ?hylb7_7⟩) (by assumption) ?restlb7_7
      case hylb7_7 => intro W hSW; have c2 := (RCur.bel R_0.out hSW).c2; have c1 := (RCur.bel R_0.out hSW).c1; go_simp; try rfl
      try simp only [Act.put, List.setIfInBounds_toArray, List.set_cons_zero, List.set_cons_succ]
      refine wpAnyH_ready (rs := [3]) (by kernel_rfl) (by simp) ?_
      refine (AllReadyH.cons (o := ⟨some 111, _, _, _, _, _⟩) rfl (fun K hK => ?_) AllReadyH.nil)
      · go_simp
        refine (EC.out _ g1 sv1 _ _ wd C_0.out).mono ?_
        rintro e _ ⟨rfl, rfl⟩
        have hb := Below.refl wd.heap.size wd
        have C_8 := Lib.hid (CursorAt.bel C_0.out hb)
        have R_8 := Lib.hid (RCur.bel R_0.out hb)
        refine hK.out _ _ ?_ (fun hHeld2 => ?_)
        · exact hb
        clear hK K hHeld
        have B_8 := Lib.hid (bel_after B_0.out (Nat.le_refl _) hb)
        clear hHeld2
        try simp only [Act.put, List.setIfInBounds_toArray, List.set_cons_zero, List.set_cons_succ]
        have hHeld : Below wd.heap.size wd wd := Below.refl _ _
        clear hb
        try clear C_0
        try clear R_0
        refine wpAnyH_take (i := 8) (oi := ⟨some 116, _, _, _, _, _⟩) (v := ?vlb8_9) rfl (by kernel_rfl) (by kernel_rfl) (by kernel_rfl) (fun _ _ _ h => h) (Or.inl ⟨by rfl, ?hylb8_9⟩) (by assumption) ?restlb8_9
        case hylb8_9 => intro W hSW; go_simp; try rfl
        try simp only [Act.put, List.setIfInBounds_toArray, List.set_cons_zero, List.set_cons_succ]
        refine wpAnyH_take (i := 9) (oi := ⟨some 117, _, _, _, _, _⟩) (v := ?vlb9_10) rfl (by kernel_rfl) (by kernel_rfl) (by kernel_rfl) (fun _ _ _ h => h) (Or.inl ⟨by rfl, ?hylb9_10⟩) (by assumption) ?restlb9_10
        case hylb9_10 => intro W hSW; go_simp; try rfl
        try simp only [Act.put, List.setIfInBounds_toArray, List.set_cons_zero, List.set_cons_succ]
        refine wpAnyH_take (i := 10) (oi := ⟨some 118, _, _, _, _, _⟩) (v := ?vlb10_11) rfl (by kernel_rfl) (by kernel_rfl) (by kernel_rfl) (fun _ _ _ h => h) (Or.inl ⟨by rfl, ?hylb10_11⟩) (by assumption) ?restlb10_11
        case hylb10_11 => intro W hSW; go_simp; try rfl
        try simp only [Act.put, List.setIfInBounds_toArray, List.set_cons_zero, List.set_cons_succ]
        refine wpAnyH_take (i := 11) (oi := ⟨some 119, _, _, _, _, _⟩) (v := ?vlb11_12) rfl (by kernel_rfl) (by kernel_rfl) (by kernel_rfl) (fun _ _ _ h => h) (Or.inl ⟨by rfl, ?hylb11_12⟩) (by assumption) ?restlb11_12
        case hylb11_12 => intro W hSW; go_simp; try rfl
        try simp only [Act.put, List.setIfInBounds_toArray, List.set_cons_zero, List.set_cons_succ]
        refine wpAnyH_take (i := 12) (oi := ⟨some 120, _, _, _, _, _⟩) (v := ?vlb12_13) rfl (by kernel_rfl) (by kernel_rfl) (by kernel_rfl) (fun _ _ _ h => h) (Or.inl ⟨by rfl, ?hylb12_13⟩) (by assumption) ?restlb12_13
        case hylb12_13 => intro W hSW; go_simp; try rfl
        try simp only [Act.put, List.setIfInBounds_toArray, List.set_cons_zero, List.set_cons_succ]
        refine wpAnyH_take (i := 13) (oi := ⟨some 121, _, _, _, _, _⟩) (v := ?vlb13_14) rfl (by kernel_rfl) (by kernel_rfl) (by kernel_rfl) (fun _ _ _ h => h) (Or.inl ⟨by rfl, ?hylb13_14⟩) (by assumption) ?restlb13_14
        case hylb13_14 => intro W hSW; go_simp; try rfl
        try simp only [Act.put, List.setIfInBounds_toArray, List.set_cons_zero, List.set_cons_succ]
        refine wpAnyH_take (i := 14) (oi := ⟨some 122, _, _, _, _, _⟩) (v := ?vlb14_15) rfl (by kernel_rfl) (by kernel_rfl) (by kernel_rfl) (fun _ _ _ h => h) (Or.inl ⟨by rfl, ?hylb14_15⟩) (by assumption) ?restlb14_15
        case hylb14_15 => intro W hSW; have c2 := (RCur.bel R_8.out hSW).c2; have c1 := (RCur.bel R_8.out hSW).c1; go_simp; try rfl
        try simp only [Act.put, List.setIfInBounds_toArray, List.set_cons_zero, List.set_cons_succ]
        refine wpAnyH_take (i := 15) (oi := ⟨some 123, _, _, _, _, _⟩) (v := ?vlb15_16) rfl (by kernel_rfl) (by kernel_rfl) (by kernel_rfl) (fun _ _ _ h => h) (Or.inl ⟨by rfl, ?hylb15_16⟩) (by assumption) ?restlb15_16
        case hylb15_16 => intro W hSW; go_simp; try rfl
        try simp only [Act.put, List.setIfInBounds_toArray, List.set_cons_zero, List.set_cons_succ]
        refine wpAnyH_take (i := 16) (oi := ⟨some 124, _, _, _, _, _⟩) (v := ?vlb16_17) rfl (by kernel_rfl) (by kernel_rfl) (by kernel_rfl) (fun _ _ _ h => h) (Or.inl ⟨by rfl, ?hylb16_17⟩) (by assumption) ?restlb16_17
        case hylb16_17 => intro W hSW; go_simp; try rfl
        try simp only [Act.put, List.setIfInBounds_toArray, List.set_cons_zero, List.set_cons_succ]
        refine wpAnyH_take (i := 17) (oi := ⟨some 125, _, _, _, _, _⟩) (v := undef) rfl (by kernel_rfl) (by kernel_rfl) (by kernel_rfl) (fun _ _ _ h => h) (Or.inr ⟨by rfl, rfl⟩) (by assumption) ?restlb17_18
        try simp only [Act.put, List.setIfInBounds_toArray, List.set_cons_zero, List.set_cons_succ]
        refine wpAnyH_take (i := 18) (oi := ⟨some 126, _, _, _, _, _⟩) (v := undef) rfl (by kernel_rfl) (by kernel_rfl) (by kernel_rfl) (fun _ _ _ h => h) (Or.inr ⟨by rfl, rfl⟩) (by assumption) ?restlb18_19
        try simp only [Act.put, List.setIfInBounds_toArray, List.set_cons_zero, List.set_cons_succ]
        refine wpAnyH_take (i := 19) (oi := ⟨some 127, _, _, _, _, _⟩) (v := undef) rfl (by kernel_rfl) (by kernel_rfl) (by kernel_rfl) (fun _ _ _ h => h) (Or.inr ⟨by rfl, rfl⟩) (by assumption) ?restlb19_20
        try simp only [Act.put, List.setIfInBounds_toArray, List.set_cons_zero, List.set_cons_succ]
        refine wpAnyH_take (i := 20) (oi := ⟨some 128, _, _, _, _, _⟩) (v := undef) rfl (by kernel_rfl) (by kernel_rfl) (by kernel_rfl) (fun _ _ _ h => h) (Or.inr ⟨by rfl, rfl⟩) (by assumption) ?restlb20_21
        try simp only [Act.put, List.setIfInBounds_toArray, List.set_cons_zero, List.set_cons_succ]
        refine wpAnyH_take (i := 21) (oi := ⟨some 129, _, _, _, _, _⟩) (v := undef) rfl (by kernel_rfl) (by kernel_rfl) (by kernel_rfl) (fun _ _ _ h => h) (Or.inr ⟨by rfl, rfl⟩) (by assumption) ?restlb21_22
        try simp only [Act.put, List.setIfInBounds_toArray, List.set_cons_zero, List.set_cons_succ]
        refine wpAnyH_take (i := 22) (oi := ⟨some 130, _, _, _, _, _⟩) (v := undef) rfl (by kernel_rfl) (by kernel_rfl) (by kernel_rfl) (fun _ _ _ h => h) (Or.inr ⟨by rfl, rfl⟩) (by assumption) ?restlb22_23
        try simp only [Act.put, List.setIfInBounds_toArray, List.set_cons_zero, List.set_cons_succ]
        refine wpAnyH_take (i := 23) (oi := ⟨some 131, _, _, _, _, _⟩) (v := undef) rfl (by kernel_rfl) (by kernel_rfl) (by kernel_rfl) (fun _ _ _ h => h) (Or.inr ⟨by rfl, rfl⟩) (by assumption) ?restlb23_24
        try simp only [Act.put, List.setIfInBounds_toArray, List.set_cons_zero, List.set_cons_succ]
        refine wpAnyH_take (i := 24) (oi := ⟨some 132, _, _, _, _, _⟩) (v := ?vlb24_25) rfl (by kernel_rfl) (by kernel_rfl) (by kernel_rfl) (fun _ _ _ h => h) (Or.inl ⟨by rfl, ?hylb24_25⟩) (by assumption) ?restlb24_25
        case hylb24_25 => intro W hSW; go_simp; try rfl
        try simp only [Act.put, List.setIfInBounds_toArray, List.set_cons_zero, List.set_cons_succ]
        refine wpAnyH_take (i := 25) (oi := ⟨some 133, _, _, _, _, _⟩) (v := ?vlb25_26) rfl (by kernel_rfl) (by kernel_rfl) (by kernel_rfl) (fun _ _ _ h => h) (Or.inl ⟨by rfl, ?hylb25_26⟩) (by assumption) ?restlb25_26
        case hylb25_26 => intro W hSW; go_simp; try rfl
        try simp only [Act.put, List.setIfInBounds_toArray, List.set_cons_zero, List.set_cons_succ]
        refine wpAnyH_take (i := 26) (oi := ⟨some 4, _, _, _, _, _⟩) (v := ?vlb26_27) rfl (by kernel_rfl) (by kernel_rfl) (by kernel_rfl) (fun _ _ _ h => h) (Or.inl ⟨by rfl, ?hylb26_27⟩) (by assumption) ?restlb26_27
        case hylb26_27 => intro W hSW; go_simp; try rfl
        try simp only [Act.put, List.setIfInBounds_toArray, List.set_cons_zero, List.set_cons_succ]
        refine wpAnyH_done (by kernel_rfl) ?_ _
        go_wp2_with fail
        go_ret
        exact ⟨rfl, B7.out.trans (B_8.out.mono B7.out.size)⟩
  · obtain ⟨R, ⟨a', e'⟩, hP, hD⟩ := HA2.out
    have HP := Lib.hid hP; have HD := Lib.hid hD
    clear hP hD HA0 HA1 HA2 HA3
    go_wp2_with fail
    refine (HP.out BB g1 sv1 w3 C3.out).mono ?_
    rintro e w4 ⟨rfl, r4⟩
    obtain ⟨c4, r4', b4⟩ := Both.one ⟨C3.out, R3.out, B3.out⟩ r4 hg1
    have C5 := Lib.hid c4; have R5 := Lib.hid r4'; have B5 := Lib.hid b4
    have S5 := Lib.hid (S3.out.only r4.2 B3.out.size (fun k hk e => by omega))
    clear c4 r4' b4 r4 C3 R3 B3 S3
    go_wp2_with fail
    refine (HD.out g2 w4 R5.out S5.out hg2 B5.out.size).mono ?_
    rintro e w7 ⟨rfl, r6⟩
    have h6 := both_two C5.out R5.out B5.out r6 hg2
    have C7 := Lib.hid h6.c1; have R7 := Lib.hid h6.c2; have B7 := Lib.hid h6.bel
    clear h6 r6 C5 R5 B5 S5 HP HD
    simp only [recC]
    go_upto_region 22 with fail
    by_cases he : e' = 0
    · subst he
      refine wp_region_held_drew (S := (fun W => Below w7.heap.size w7 W)) (by kernel_rfl) (Below.refl _ _).drew (fun hHeld => ?_)
      have hHeld0 := hHeld
      have C_0 := Lib.hid (CursorAt.bel C7.out hHeld0)
      have R_0 := Lib.hid (RCur.bel R7.out hHeld0)
      generalize hwd : w7.drew = wd at *
      clear hwd hHeld0
      refine wpAnyH_more (S' := fun V => Below wd.heap.size wd V) (fun V h => bel_after hHeld (Nat.le_refl _) h) _ _ _ _ ?_
      have B_0 := Lib.hid hHeld
      clear hHeld
      have hHeld : Below wd.heap.size wd wd := Below.refl _ _
      refine wpAnyH_take (i := 0) (oi := ⟨some 108, _, _, _, _, _⟩) (v := ?vma0_1) rfl (by kernel_rfl) (by kernel_rfl) (by kernel_rfl) (fun _ _ _ h => h) (Or.inl ⟨by rfl, ?hyma0_1⟩) (by assumption) ?restma0_1
      case hyma0_1 => intro W hSW; go_simp; try rfl
      try simp only [Act.put, List.setIfInBounds_toArray, List.set_cons_zero, List.set_cons_succ]
      refine wpAnyH_take (i := 1) (oi := ⟨some 109, _, _, _, _, _⟩) (v := ?vma1_2) rfl (by kernel_rfl) (by kernel_rfl) (by kernel_rfl) (fun _ _ _ h => h) (Or.inl ⟨by rfl, ?hyma1_2⟩) (by assumption) ?restma1_2
      case hyma1_2 => intro W hSW; go_simp; try rfl
      try simp only [Act.put, List.setIfInBounds_toArray, List.set_cons_zero, List.set_cons_succ]
      refine wpAnyH_take (i := 2) (oi := ⟨some 110, _, _, _, _, _⟩) (v := ?vma2_3) rfl (by kernel_rfl) (by kernel_rfl) (by kernel_rfl) (fun _ _ _ h => h) (Or.inl ⟨by rfl, ?hyma2_3⟩) (by assumption) ?restma2_3
      case hyma2_3 => intro W hSW; go_simp; try rfl
      try simp only [Act.put, List.setIfInBounds_toArray, List.set_cons_zero, List.set_cons_succ]
      refine wpAnyH_take (i := 4) (oi := ⟨some 112, _, _, _, _, _⟩) (v := ?vma4_4) rfl (by kernel_rfl) (by kernel_rfl) (by kernel_rfl) (fun _ _ _ h => h) (Or.inl ⟨by rfl, ?hyma4_4⟩) (by assumption) ?restma4_4
      case hyma4_4 => intro W hSW; go_simp; try rfl
      try simp only [Act.put, List.setIfInBounds_toArray, List.set_cons_zero, List.set_cons_succ]
      refine wpAnyH_take (i := 5) (oi := ⟨some 113, _, _, _, _, _⟩) (v := ?vma5_5) rfl (by kernel_rfl) (by kernel_rfl) (by kernel_rfl) (fun _ _ _ h => h) (Or.inl ⟨by rfl, ?hyma5_5⟩) (by assumption) ?restma5_5
      case hyma5_5 => intro W hSW; go_simp; try rfl
      try simp only [Act.put, List.setIfInBounds_toArray, List.set_cons_zero, List.set_cons_succ]
      refine wpAnyH_take (i := 6) (oi := ⟨some 114, _, _, _, _, _⟩) (v := ?vma6_6) rfl (by kernel_rfl) (by kernel_rfl) (by kernel_rfl) (fun _ _ _ h => h) (Or.inl ⟨by rfl, ?hyma6_6⟩) (by assumption) ?restma6_6
      case hyma6_6 => intro W hSW; go_simp; try rfl
      try simp only [Act.put, List.setIfInBounds_toArray, List.set_cons_zero, List.set_cons_succ]
      refine wpAnyH_take (i := 7) (oi := ⟨some 115, _, _, _, _, _⟩) (v := ?vma7_7) rfl (by kernel_rfl) (by kernel_rfl) (by kernel_rfl) (fun _ _ _ h => h) (Or.inl ⟨by rfl, ?hyma7_7⟩) (by assumption) ?restma7_7
      case hyma7_7 => intro W hSW; have c2 := (RCur.bel R_0.out hSW).c2; have c1 := (RCur.bel R_0.out hSW).c1; go_simp; try rfl
      try simp only [Act.put, List.setIfInBounds_toArray, List.set_cons_zero, List.set_cons_succ]
      refine wpAnyH_ready (rs := [3]) (by kernel_rfl) (by simp) ?_
      refine (AllReadyH.cons (o := ⟨some 111, _, _, _, _, _⟩) rfl (fun K hK => ?_) AllReadyH.nil)
      · go_simp
        refine (EC.out _ g1 sv1 _ _ wd C_0.out).mono ?_
        rintro e _ ⟨rfl, rfl⟩
        have hb := Below.refl wd.heap.size wd
        have C_8 := Lib.hid (CursorAt.bel C_0.out hb)
        have R_8 := Lib.hid (RCur.bel R_0.out hb)
        refine hK.out _ _ ?_ (fun hHeld2 => ?_)
        · exact hb
        clear hK K hHeld
        have B_8 := Lib.hid (bel_after B_0.out (Nat.le_refl _) hb)
        clear hHeld2
        try simp only [Act.put, List.setIfInBounds_toArray, List.set_cons_zero, List.set_cons_succ]
        have hHeld : Below wd.heap.size wd wd := Below.refl _ _
        clear hb
        try clear C_0
        try clear R_0
        refine wpAnyH_take (i := 8) (oi := ⟨some 116, _, _, _, _, _⟩) (v := ?vma8_9) rfl (by kernel_rfl) (by kernel_rfl) (by kernel_rfl) (fun _ _ _ h => h) (Or.inl ⟨by rfl, ?hyma8_9⟩) (by assumption) ?restma8_9
        case hyma8_9 => intro W hSW; go_simp; try rfl
        try simp only [Act.put, List.setIfInBounds_toArray, List.set_cons_zero, List.set_cons_succ]
        refine wpAnyH_take (i := 9) (oi := ⟨some 117, _, _, _, _, _⟩) (v := ?vma9_10) rfl (by kernel_rfl) (by kernel_rfl) (by kernel_rfl) (fun _ _ _ h => h) (Or.inl ⟨by rfl, ?hyma9_10⟩) (by assumption) ?restma9_10
        case hyma9_10 => intro W hSW; go_simp; try rfl
        try simp only [Act.put, List.setIfInBounds_toArray, List.set_cons_zero, List.set_cons_succ]
        refine wpAnyH_take (i := 10) (oi := ⟨some 118, _, _, _, _, _⟩) (v := ?vma10_11) rfl (by kernel_rfl) (by kernel_rfl) (by kernel_rfl) (fun _ _ _ h => h) (Or.inl ⟨by rfl, ?hyma10_11⟩) (by assumption) ?restma10_11
        case hyma10_11 => intro W hSW; go_simp; try rfl
        try simp only [Act.put, List.setIfInBounds_toArray, List.set_cons_zero, List.set_cons_succ]
        refine wpAnyH_take (i := 11) (oi := ⟨some 119, _, _, _, _, _⟩) (v := ?vma11_12) rfl (by kernel_rfl) (by kernel_rfl) (by kernel_rfl) (fun _ _ _ h => h) (Or.inl ⟨by rfl, ?hyma11_12⟩) (by assumption) ?restma11_12
        case hyma11_12 => intro W hSW; go_simp; try rfl
        try simp only [Act.put, List.setIfInBounds_toArray, List.set_cons_zero, List.set_cons_succ]
        refine wpAnyH_take (i := 12) (oi := ⟨some 120, _, _, _, _, _⟩) (v := ?vma12_13) rfl (by kernel_rfl) (by kernel_rfl) (by kernel_rfl) (fun _ _ _ h => h) (Or.inl ⟨by rfl, ?hyma12_13⟩) (by assumption) ?restma12_13
        case hyma12_13 => intro W hSW; go_simp; try rfl
        try simp only [Act.put, List.setIfInBounds_toArray, List.set_cons_zero, List.set_cons_succ]
        refine wpAnyH_take (i := 13) (oi := ⟨some 121, _, _, _, _, _⟩) (v := ?vma13_14) rfl (by kernel_rfl) (by kernel_rfl) (by kernel_rfl) (fun _ _ _ h => h) (Or.inl ⟨by rfl, ?hyma13_14⟩) (by assumption) ?restma13_14
        case hyma13_14 => intro W hSW; go_simp; try rfl
        try simp only [Act.put, List.setIfInBounds_toArray, List.set_cons_zero, List.set_cons_succ]
        refine wpAnyH_take (i := 14) (oi := ⟨some 122, _, _, _, _, _⟩) (v := ?vma14_15) rfl (by kernel_rfl) (by kernel_rfl) (by kernel_rfl) (fun _ _ _ h => h) (Or.inl ⟨by rfl, ?hyma14_15⟩) (by assumption) ?restma14_15
        case hyma14_15 => intro W hSW; have c2 := (RCur.bel R_8.out hSW).c2; have c1 := (RCur.bel R_8.out hSW).c1; go_simp; try rfl
        try simp only [Act.put, List.setIfInBounds_toArray, List.set_cons_zero, List.set_cons_succ]
        refine wpAnyH_take (i := 15) (oi := ⟨some 123, _, _, _, _, _⟩) (v := ?vma15_16) rfl (by kernel_rfl) (by kernel_rfl) (by kernel_rfl) (fun _ _ _ h => h) (Or.inl ⟨by rfl, ?hyma15_16⟩) (by assumption) ?restma15_16
        case hyma15_16 => intro W hSW; go_simp; try rfl
        try simp only [Act.put, List.setIfInBounds_toArray, List.set_cons_zero, List.set_cons_succ]
        refine wpAnyH_take (i := 16) (oi := ⟨some 124, _, _, _, _, _⟩) (v := ?vma16_17) rfl (by kernel_rfl) (by kernel_rfl) (by kernel_rfl) (fun _ _ _ h => h) (Or.inl ⟨by rfl, ?hyma16_17⟩) (by assumption) ?restma16_17
        case hyma16_17 => intro W hSW; go_simp; try rfl
        try simp only [Act.put, List.setIfInBounds_toArray, List.set_cons_zero, List.set_cons_succ]
        refine wpAnyH_take (i := 17) (oi := ⟨some 125, _, _, _, _, _⟩) (v := ?vma17_18) rfl (by kernel_rfl) (by kernel_rfl) (by kernel_rfl) (fun _ _ _ h => h) (Or.inl ⟨by rfl, ?hyma17_18⟩) (by assumption) ?restma17_18
        case hyma17_18 => intro W hSW; go_simp; try rfl
        try simp only [Act.put, List.setIfInBounds_toArray, List.set_cons_zero, List.set_cons_succ]
        refine wpAnyH_take (i := 19) (oi := ⟨some 127, _, _, _, _, _⟩) (v := ?vma19_19) rfl (by kernel_rfl) (by kernel_rfl) (by kernel_rfl) (fun _ _ _ h => h) (Or.inl ⟨by rfl, ?hyma19_19⟩) (by assumption) ?restma19_19
        case hyma19_19 => intro W hSW; go_simp; try rfl
        try simp only [Act.put, List.setIfInBounds_toArray, List.set_cons_zero, List.set_cons_succ]
        refine wpAnyH_take (i := 20) (oi := ⟨some 128, _, _, _, _, _⟩) (v := ?vma20_20) rfl (by kernel_rfl) (by kernel_rfl) (by kernel_rfl) (fun _ _ _ h => h) (Or.inl ⟨by rfl, ?hyma20_20⟩) (by assumption) ?restma20_20
        case hyma20_20 => intro W hSW; go_simp; try rfl
        try simp only [Act.put, List.setIfInBounds_toArray, List.set_cons_zero, List.set_cons_succ]
        refine wpAnyH_take (i := 21) (oi := ⟨some 129, _, _, _, _, _⟩) (v := ?vma21_21) rfl (by kernel_rfl) (by kernel_rfl) (by kernel_rfl) (fun _ _ _ h => h) (Or.inl ⟨by rfl, ?hyma21_21⟩) (by assumption) ?restma21_21
        case hyma21_21 => intro W hSW; go_simp; try rfl
        try simp only [Act.put, List.setIfInBounds_toArray, List.set_cons_zero, List.set_cons_succ]
        refine wpAnyH_take (i := 22) (oi := ⟨some 130, _, _, _, _, _⟩) (v := ?vma22_22) rfl (by kernel_rfl) (by kernel_rfl) (by kernel_rfl) (fun _ _ _ h => h) (Or.inl ⟨by rfl, ?hyma22_22⟩) (by assumption) ?restma22_22
        case hyma22_22 => intro W hSW; have c2 := (RCur.bel R_8.out hSW).c2; have c1 := (RCur.bel R_8.out hSW).c1; go_simp; try rfl
        try simp only [Act.put, List.setIfInBounds_toArray, List.set_cons_zero, List.set_cons_succ]
        refine wpAnyH_ready (rs := [18]) (by kernel_rfl) (by simp) ?_
        refine (AllReadyH.cons (o := ⟨some 126, _, _, _, _, _⟩) rfl (fun K hK => ?_) AllReadyH.nil)
        · go_simp
          refine (AC.out _ g1 sv1 _ _ wd C_8.out).mono ?_
          rintro e _ ⟨rfl, rfl⟩
          have hb := Below.refl wd.heap.size wd
          have C_23 := Lib.hid (CursorAt.bel C_8.out hb)
          have R_23 := Lib.hid (RCur.bel R_8.out hb)
          refine hK.out _ _ ?_ (fun hHeld2 => ?_)
          · exact hb
          clear hK K hHeld
          have B_23 := Lib.hid (bel_after B_8.out (Nat.le_refl _) hb)
          clear hHeld2
          try simp only [Act.put, List.setIfInBounds_toArray, List.set_cons_zero, List.set_cons_succ]
          have hHeld : Below wd.heap.size wd wd := Below.refl _ _
          clear hb
          try clear C_8
          try clear R_8
          refine wpAnyH_take (i := 23) (oi := ⟨some 131, _, _, _, _, _⟩) (v := ?vma23_24) rfl (by kernel_rfl) (by kernel_rfl) (by kernel_rfl) (fun _ _ _ h => h) (Or.inl ⟨by rfl, ?hyma23_24⟩) (by assumption) ?restma23_24
          case hyma23_24 => intro W hSW; go_simp; try rfl
          try simp only [Act.put, List.setIfInBounds_toArray, List.set_cons_zero, List.set_cons_succ]
          refine wpAnyH_take (i := 24) (oi := ⟨some 132, _, _, _, _, _⟩) (v := ?vma24_25) rfl (by kernel_rfl) (by kernel_rfl) (by kernel_rfl) (fun _ _ _ h => h) (Or.inl ⟨by rfl, ?hyma24_25⟩) (by assumption) ?restma24_25
          case hyma24_25 => intro W hSW; go_simp; try rfl
          try simp only [Act.put, List.setIfInBounds_toArray, List.set_cons_zero, List.set_cons_succ]
          refine wpAnyH_take (i := 25) (oi := ⟨some 133, _, _, _, _, _⟩) (v := ?vma25_26) rfl (by kernel_rfl) (by kernel_rfl) (by kernel_rfl) (fun _ _ _ h => h) (Or.inl ⟨by rfl, ?hyma25_26⟩) (by assumption) ?restma25_26
          case hyma25_26 => intro W hSW; go_simp; try rfl
          try simp only [Act.put, List.setIfInBounds_toArray, List.set_cons_zero, List.set_cons_succ]
          refine wpAnyH_take (i := 26) (oi := ⟨some 4, _, _, _, _, _⟩) (v := ?vma26_27) rfl (by kernel_rfl) (by kernel_rfl) (by kernel_rfl) (fun _ _ _ h => h) (Or.inl ⟨by rfl, ?hyma26_27⟩) (by assumption) ?restma26_27
          case hyma26_27 => intro W hSW; go_simp; try rfl
          try simp only [Act.put, List.setIfInBounds_toArray, List.set_cons_zero, List.set_cons_succ]
          refine wpAnyH_done (by kernel_rfl) ?_ _
          go_wp2_with fail
          go_ret
          exact ⟨rfl, B7.out.trans (B_23.out.mono B7.out.size)⟩
    · have hne : (e' != 0) = true := by simpa using he
      refine wp_region_held_drew (S := (fun W => Below w7.heap.size w7 W)) (by kernel_rfl) (Below.refl _ _).drew (fun hHeld => ?_)
      have hHeld0 := hHeld
      have C_0 := Lib.hid (CursorAt.bel C7.out hHeld0)
      have R_0 := Lib.hid (RCur.bel R7.out hHeld0)
      generalize hwd : w7.drew = wd at *
      clear hwd hHeld0
      refine wpAnyH_more (S' := fun V => Below wd.heap.size wd V) (fun V h => bel_after hHeld (Nat.le_refl _) h) _ _ _ _ ?_
      have B_0 := Lib.hid hHeld
      clear hHeld
      have hHeld : Below wd.heap.size wd wd := Below.refl _ _
      refine wpAnyH_take (i := 0) (oi := ⟨some 108, _, _, _, _, _⟩) (v := ?vmb0_1) rfl (by kernel_rfl) (by kernel_rfl) (by kernel_rfl) (fun _ _ _ h => h) (Or.inl ⟨by rfl, ?hymb0_1⟩) (by assumption) ?restmb0_1
      case hymb0_1 => intro W hSW; go_simp; try rfl
      try simp only [Act.put, List.setIfInBounds_toArray, List.set_cons_zero, List.set_cons_succ]
      refine wpAnyH_take (i := 1) (oi := ⟨some 109, _, _, _, _, _⟩) (v := ?vmb1_2) rfl (by kernel_rfl) (by kernel_rfl) (by kernel_rfl) (fun _ _ _ h => h) (Or.inl ⟨by rfl, ?hymb1_2⟩) (by assumption) ?restmb1_2
      case hymb1_2 => intro W hSW; go_simp; try rfl
      try simp only [Act.put, List.setIfInBounds_toArray, List.set_cons_zero, List.set_cons_succ]
      refine wpAnyH_take (i := 2) (oi := ⟨some 110, _, _, _, _, _⟩) (v := ?vmb2_3) rfl (by kernel_rfl) (by kernel_rfl) (by kernel_rfl) (fun _ _ _ h => h) (Or.inl ⟨by rfl, ?hymb2_3⟩) (by assumption) ?restmb2_3
      case hymb2_3 => intro W hSW; go_simp; try rfl
      try simp only [Act.put, List.setIfInBounds_toArray, List.set_cons_zero, List.set_cons_succ]
      refine wpAnyH_take (i := 4) (oi := ⟨some 112, _, _, _, _, _⟩) (v := ?vmb4_4) rfl (by kernel_rfl) (by kernel_rfl) (by kernel_rfl) (fun _ _ _ h => h) (Or.inl ⟨by rfl, ?hymb4_4⟩) (by assumption) ?restmb4_4
      case hymb4_4 => intro W hSW; go_simp; try rfl
      try simp only [Act.put, List.setIfInBounds_toArray, List.set_cons_zero, List.set_cons_succ]
      refine wpAnyH_take (i := 5) (oi := ⟨some 113, _, _, _, _, _⟩) (v := ?vmb5_5) rfl (by kernel_rfl) (by kernel_rfl) (by kernel_rfl) (fun _ _ _ h => h) (Or.inl ⟨by rfl, ?hymb5_5⟩) (by assumption) ?restmb5_5
      case hymb5_5 => intro W hSW; go_simp; try rfl
      try simp only [Act.put, List.setIfInBounds_toArray, List.set_cons_zero, List.set_cons_succ]
      refine wpAnyH_take (i := 6) (oi := ⟨some 114, _, _, _, _, _⟩) (v := ?vmb6_6) rfl (by kernel_rfl) (by kernel_rfl) (by kernel_rfl) (fun _ _ _ h => h) (Or.inl ⟨by rfl, ?hymb6_6⟩) (by assumption) ?restmb6_6
      case hymb6_6 => intro W hSW; go_simp; try rfl
      try simp only [Act.put, List.setIfInBounds_toArray, List.set_cons_zero, List.set_cons_succ]
      refine wpAnyH_take (i := 7) (oi := ⟨some 115, _, _, _, _, _⟩) (v := ?vmb7_7) rfl (by kernel_rfl) (by kernel_rfl) (by kernel_rfl) (fun _ _ _ h => h) (Or.inl ⟨by rfl, ?hymb7_7⟩) (by assumption) ?restmb7_7
      case hymb7_7 => intro W hSW; have c2 := (RCur.bel R_0.out hSW).c2; have c1 := (RCur.bel R_0.out hSW).c1; go_simp; try rfl
      try simp only [Act.put, List.setIfInBounds_toArray, List.set_cons_zero, List.set_cons_succ]
      refine wpAnyH_ready (rs := [3]) (by kernel_rfl) (by simp) ?_
      refine (AllReadyH.cons (o := ⟨some 111, _, _, _, _, _⟩) rfl (fun K hK => ?_) AllReadyH.nil)
      · go_simp
        refine (EC.out _ g1 sv1 _ _ wd C_0.out).mono ?_
        rintro e _ ⟨rfl, rfl⟩
        have hb := Below.refl wd.heap.size wd
        have C_8 := Lib.hid (CursorAt.bel C_0.out hb)
        have R_8 := Lib.hid (RCur.bel R_0.out hb)
        refine hK.out _ _ ?_ (fun hHeld2 => ?_)
        · exact hb
        clear hK K hHeld
        have B_8 := Lib.hid (bel_after B_0.out (Nat.le_refl _) hb)
        clear hHeld2
        try simp only [Act.put, List.setIfInBounds_toArray, List.set_cons_zero, List.set_cons_succ]
        have hHeld : Below wd.heap.size wd wd := Below.refl _ _
        clear hb
        try clear C_0
        try clear R_0
        refine wpAnyH_take (i := 8) (oi := ⟨some 116, _, _, _, _, _⟩) (v := ?vmb8_9) rfl (by kernel_rfl) (by kernel_rfl) (by kernel_rfl) (fun _ _ _ h => h) (Or.inl ⟨by rfl, ?hymb8_9⟩) (by assumption) ?restmb8_9
        case hymb8_9 => intro W hSW; go_simp; try rfl
        try simp only [Act.put, List.setIfInBounds_toArray, List.set_cons_zero, List.set_cons_succ]
        refine wpAnyH_take (i := 9) (oi := ⟨some 117, _, _, _, _, _⟩) (v := ?vmb9_10) rfl (by kernel_rfl) (by kernel_rfl) (by kernel_rfl) (fun _ _ _ h => h) (Or.inl ⟨by rfl, ?hymb9_10⟩) (by assumption) ?restmb9_10
        case hymb9_10 => intro W hSW; go_simp; try rfl
        try simp only [Act.put, List.setIfInBounds_toArray, List.set_cons_zero, List.set_cons_succ]
        refine wpAnyH_take (i := 10) (oi := ⟨some 118, _, _, _, _, _⟩) (v := ?vmb10_11) rfl (by kernel_rfl) (by kernel_rfl) (by kernel_rfl) (fun _ _ _ h => h) (Or.inl ⟨by rfl, ?hymb10_11⟩) (by assumption) ?restmb10_11
        case hymb10_11 => intro W hSW; go_simp; try rfl
        try simp only [Act.put, List.setIfInBounds_toArray, List.set_cons_zero, List.set_cons_succ]
        refine wpAnyH_take (i := 11) (oi := ⟨some 119, _, _, _, _, _⟩) (v := ?vmb11_12) rfl (by kernel_rfl) (by kernel_rfl) (by kernel_rfl) (fun _ _ _ h => h) (Or.inl ⟨by rfl, ?hymb11_12⟩) (by assumption) ?restmb11_12
        case hymb11_12 => intro W hSW; go_simp; try rfl
        try simp only [Act.put, List.setIfInBounds_toArray, List.set_cons_zero, List.set_cons_succ]
        refine wpAnyH_take (i := 12) (oi := ⟨some 120, _, _, _, _, _⟩) (v := ?vmb12_13) rfl (by kernel_rfl) (by kernel_rfl) (by kernel_rfl) (fun _ _ _ h => h) (Or.inl ⟨by rfl, ?hymb12_13⟩) (by assumption) ?restmb12_13
        case hymb12_13 => intro W hSW; go_simp; try rfl
        try simp only [Act.put, List.setIfInBounds_toArray, List.set_cons_zero, List.set_cons_succ]
        refine wpAnyH_take (i := 13) (oi := ⟨some 121, _, _, _, _, _⟩) (v := ?vmb13_14) rfl (by kernel_rfl) (by kernel_rfl) (by kernel_rfl) (fun _ _ _ h => h) (Or.inl ⟨by rfl, ?hymb13_14⟩) (by assumption) ?restmb13_14
        case hymb13_14 => intro W hSW; go_simp; try rfl
        try simp only [Act.put, List.setIfInBounds_toArray, List.set_cons_zero, List.set_cons_succ]
        refine wpAnyH_take (i := 14) (oi := ⟨some 122, _, _, _, _, _⟩) (v := ?vmb14_15) rfl (by kernel_rfl) (by kernel_rfl) (by kernel_rfl) (fun _ _ _ h => h) (Or.inl ⟨by rfl, ?hymb14_15⟩) (by assumption) ?restmb14_15
        case hymb14_15 => intro W hSW; have c2 := (RCur.bel R_8.out hSW).c2; have c1 := (RCur.bel R_8.out hSW).c1; go_simp; try rfl
        try simp only [Act.put, List.setIfInBounds_toArray, List.set_cons_zero, List.set_cons_succ]
        refine wpAnyH_take (i := 15) (oi := ⟨some 123, _, _, _, _, _⟩) (v := ?vmb15_16) rfl (by kernel_rfl) (by kernel_rfl) (by kernel_rfl) (fun _ _ _ h => h) (Or.inl ⟨by rfl, ?hymb15_16⟩) (by assumption) ?restmb15_16
        case hymb15_16 => intro W hSW; go_simp; try rfl
        try simp only [Act.put, List.setIfInBounds_toArray, List.set_cons_zero, List.set_cons_succ]
        refine wpAnyH_take (i := 16) (oi := ⟨some 124, _, _, _, _, _⟩) (v := ?vmb16_17) rfl (by kernel_rfl) (by kernel_rfl) (by kernel_rfl) (fun _ _ _ h => h) (Or.inl ⟨by rfl, ?hymb16_17⟩) (by assumption) ?restmb16_17
        case hymb16_17 => intro W hSW; go_simp; try rfl
        try simp only [Act.put, List.setIfInBounds_toArray, List.set_cons_zero, List.set_cons_succ]
        refine wpAnyH_take (i := 17) (oi := ⟨some 125, _, _, _, _, _⟩) (v := undef) rfl (by kernel_rfl) (by kernel_rfl) (by kernel_rfl) (fun _ _ _ h => h) (Or.inr ⟨by rfl, rfl⟩) (by assumption) ?restmb17_18
        try simp only [Act.put, List.setIfInBounds_toArray, List.set_cons_zero, List.set_cons_succ]
        refine wpAnyH_take (i := 18) (oi := ⟨some 126, _, _, _, _, _⟩) (v := undef) rfl (by kernel_rfl) (by kernel_rfl) (by kernel_rfl) (fun _ _ _ h => h) (Or.inr ⟨by rfl, rfl⟩) (by assumption) ?restmb18_19
        try simp only [Act.put, List.setIfInBounds_toArray, List.set_cons_zero, List.set_cons_succ]
        refine wpAnyH_take (i := 19) (oi := ⟨some 127, _, _, _, _, _⟩) (v := undef) rfl (by kernel_rfl) (by kernel_rfl) (by kernel_rfl) (fun _ _ _ h => h) (Or.inr ⟨by rfl, rfl⟩) (by assumption) ?restmb19_20
        try simp only [Act.put, List.setIfInBounds_toArray, List.set_cons_zero, List.set_cons_succ]
        refine wpAnyH_take (i := 20) (oi := ⟨some 128, _, _, _, _, _⟩) (v := undef) rfl (by kernel_rfl) (by kernel_rfl) (by kernel_rfl) (fun _ _ _ h => h) (Or.inr ⟨by rfl, rfl⟩) (by assumption) ?restmb20_21
        try simp only [Act.put, List.setIfInBounds_toArray, List.set_cons_zero, List.set_cons_succ]
        refine wpAnyH_take (i := 21) (oi := ⟨some 129, _, _, _, _, _⟩) (v := undef) rfl (by kernel_rfl) (by kernel_rfl) (by kernel_rfl) (fun _ _ _ h => h) (Or.inr ⟨by rfl, rfl⟩) (by assumption) ?restmb21_22
        try simp only [Act.put, List.setIfInBounds_toArray, List.set_cons_zero, List.set_cons_succ]
        refine wpAnyH_take (i := 22) (oi := ⟨some 130, _, _, _, _, _⟩) (v := undef) rfl (by kernel_rfl) (by kernel_rfl) (by kernel_rfl) (fun _ _ _ h => h) (Or.inr ⟨by rfl, rfl⟩) (by assumption) ?restmb22_23
        try simp only [Act.put, List.setIfInBounds_toArray, List.set_cons_zero, List.set_cons_succ]
        refine wpAnyH_take (i := 23) (oi := ⟨some 131, _, _, _, _, _⟩) (v := undef) rfl (by kernel_rfl) (by kernel_rfl) (by kernel_rfl) (fun _ _ _ h => h) (Or.inr ⟨by rfl, rfl⟩) (by assumption) ?restmb23_24
        try simp only [Act.put, List.setIfInBounds_toArray, List.set_cons_zero, List.set_cons_succ]
        refine wpAnyH_take (i := 24) (oi := ⟨some 132, _, _, _, _, _⟩) (v := ?vmb24_25) rfl (by kernel_rfl) (by kernel_rfl) (by kernel_rfl) (fun _ _ _ h => h) (Or.inl ⟨by rfl, ?hymb24_25⟩) (by assumption) ?restmb24_25
        case hymb24_25 => intro W hSW; go_simp; try rfl
        try simp only [Act.put, List.setIfInBounds_toArray, List.set_cons_zero, List.set_cons_succ]
        refine wpAnyH_take (i := 25) (oi := ⟨some 133, _, _, _, _, _⟩) (v := ?vmb25_26) rfl (by kernel_rfl) (by kernel_rfl) (by kernel_rfl) (fun _ _ _ h => h) (Or.inl ⟨by rfl, ?hymb25_26⟩) (by assumption) ?restmb25_26
        case hymb25_26 => intro W hSW; go_simp; try rfl
        try simp only [Act.put, List.setIfInBounds_toArray, List.set_cons_zero, List.set_cons_succ]
        refine wpAnyH_take (i := 26) (oi := ⟨some 4, _, _, _, _, _⟩) (v := ?vmb26_27) rfl (by kernel_rfl) (by kernel_rfl) (by kernel_rfl) (fun _ _ _ h => h) (Or.inl ⟨by rfl, ?hymb26_27⟩) (by assumption) ?restmb26_27
        case hymb26_27 => intro W hSW; go_simp; try rfl
        try simp only [Act.put, List.setIfInBounds_toArray, List.set_cons_zero, List.set_cons_succ]
        refine wpAnyH_done (by kernel_rfl) ?_ _
        go_wp2_with fail
        go_ret
        exact ⟨rfl, B7.out.trans (B_8.out.mono B7.out.size)⟩
  · obtain ⟨u0, u1, u2, ⟨a', e'⟩, hP, hD⟩ := HA3.out
    have HP := Lib.hid hP; have HD := Lib.hid hD
    clear hP hD HA0 HA1 HA2 HA3
    go_wp2_with fail
    refine (HP.out BB g1 sv1 w3 C3.out).mono ?_
    rintro e w4 ⟨rfl, r4⟩
    obtain ⟨c4, r4', b4⟩ := Both.one ⟨C3.out, R3.out, B3.out⟩ r4 hg1
    have C5 := Lib.hid c4; have R5 := Lib.hid r4'; have B5 := Lib.hid b4
    have S5 := Lib.hid (S3.out.only r4.2 B3.out.size (fun k hk e => by omega))
    clear c4 r4' b4 r4 C3 R3 B3 S3
    go_wp2_with fail
    refine (HD.out g2 w4 R5.out S5.out hg2 B5.out.size).mono ?_
    rintro e w7 ⟨rfl, r6⟩
    have h6 := both_two C5.out R5.out B5.out r6 hg2
    have C7 := Lib.hid h6.c1; have R7 := Lib.hid h6.c2; have B7 := Lib.hid h6.bel
    clear h6 r6 C5 R5 B5 S5 HP HD
    go_upto_region 22 with fail
    by_cases he : e' = 0
    · subst he
      refine wp_region_held_drew (S := (fun W => Below w7.heap.size w7 W)) (by kernel_rfl) (Below.refl _ _).drew (fun hHeld => ?_)
      have hHeld0 := hHeld
      have C_0 := Lib.hid (CursorAt.bel C7.out hHeld0)
      have R_0 := Lib.hid (RCur.bel R7.out hHeld0)
      generalize hwd : w7.drew = wd at *
      clear hwd hHeld0
      refine wpAnyH_more (S' := fun V => Below wd.heap.size wd V) (fun V h => bel_after hHeld (Nat.le_refl _) h) _ _ _ _ ?_
      have B_0 := Lib.hid hHeld
      clear hHeld
      have hHeld : Below wd.heap.size wd wd := Below.refl _ _
      refine wpAnyH_take (i := 0) (oi := ⟨some 108, _, _, _, _, _⟩) (v := ?vna0_1) rfl (by kernel_rfl) (by kernel_rfl) (by kernel_rfl) (fun _ _ _ h => h) (Or.inl ⟨by rfl, ?hyna0_1⟩) (by assumption) ?restna0_1
      case hyna0_1 => intro W hSW; go_simp; try rfl
      try simp only [Act.put, List.setIfInBounds_toArray, List.set_cons_zero, List.set_cons_succ]
      refine wpAnyH_take (i := 1) (oi := ⟨some 109, _, _, _, _, _⟩) (v := ?vna1_2) rfl (by kernel_rfl) (by kernel_rfl) (by kernel_rfl) (fun _ _ _ h => h) (Or.inl ⟨by rfl, ?hyna1_2⟩) (by assumption) ?restna1_2
      case hyna1_2 => intro W hSW; go_simp; try rfl
      try simp only [Act.put, List.setIfInBounds_toArray, List.set_cons_zero, List.set_cons_succ]
      refine wpAnyH_take (i := 2) (oi := ⟨some 110, _, _, _, _, _⟩) (v := ?vna2_3) rfl (by kernel_rfl) (by kernel_rfl) (by kernel_rfl) (fun _ _ _ h => h) (Or.inl ⟨by rfl, ?hyna2_3⟩) (by assumption) ?restna2_3
      case hyna2_3 => intro W hSW; go_simp; try rfl
      try simp only [Act.put, List.setIfInBounds_toArray, List.set_cons_zero, List.set_cons_succ]
      refine wpAnyH_take (i := 4) (oi := ⟨some 112, _, _, _, _, _⟩) (v := ?vna4_4) rfl (by kernel_rfl) (by kernel_rfl) (by kernel_rfl) (fun _ _ _ h => h) (Or.inl ⟨by rfl, ?hyna4_4⟩) (by assumption) ?restna4_4
      case hyna4_4 => intro W hSW; go_simp; try rfl
      try simp only [Act.put, List.setIfInBounds_toArray, List.set_cons_zero, List.set_cons_succ]
      refine wpAnyH_take (i := 5) (oi := ⟨some 113, _, _, _, _, _⟩) (v := ?vna5_5) rfl (by kernel_rfl) (by kernel_rfl) (by kernel_rfl) (fun _ _ _ h => h) (Or.inl ⟨by rfl, ?hyna5_5⟩) (by assumption) ?restna5_5
      case hyna5_5 => intro W hSW; go_simp; try rfl
      try simp only [Act.put, List.setIfInBounds_toArray, List.set_cons_zero, List.set_cons_succ]
      refine wpAnyH_take (i := 6) (oi := ⟨some 114, _, _, _, _, _⟩) (v := ?vna6_6) rfl (by kernel_rfl) (by kernel_rfl) (by kernel_rfl) (fun _ _ _ h => h) (Or.inl ⟨by rfl, ?hyna6_6⟩) (by assumption) ?restna6_6
      case hyna6_6 => intro W hSW; go_simp; try rfl
      try simp only [Act.put, List.setIfInBounds_toArray, List.set_cons_zero, List.set_cons_succ]
      refine wpAnyH_take (i := 7) (oi := ⟨some 115, _, _, _, _, _⟩) (v := ?vna7_7) rfl (by kernel_rfl) (by kernel_rfl) (by kernel_rfl) (fun _ _ _ h => h) (Or.inl ⟨by rfl, ?hyna7_7⟩) (by assumption) ?restna7_7
      case hyna7_7 => intro W hSW; have c2 := (RCur.bel R_0.out hSW).c2; have c1 := (RCur.bel R_0.out hSW).c1; go_simp; try rfl
      try simp only [Act.put, List.setIfInBounds_toArray, List.set_cons_zero, List.set_cons_succ]
      refine wpAnyH_ready (rs := [3]) (by kernel_rfl) (by simp) ?_
      refine (AllReadyH.cons (o := ⟨some 111, _, _, _, _, _⟩) rfl (fun K hK => ?_) AllReadyH.nil)
      · go_simp
        refine (EC.out _ g1 sv1 _ _ wd C_0.out).mono ?_
        rintro e _ ⟨rfl, rfl⟩
        have hb := Below.refl wd.heap.size wd
        have C_8 := Lib.hid (CursorAt.bel C_0.out hb)
        have R_8 := Lib.hid (RCur.bel R_0.out hb)
        refine hK.out _ _ ?_ (fun hHeld2 => ?_)
        · exact hb
        clear hK K hHeld
        have B_8 := Lib.hid (bel_after B_0.out (Nat.le_refl _) hb)
        clear hHeld2
        try simp only [Act.put, List.setIfInBounds_toArray, List.set_cons_zero, List.set_cons_succ]
        have hHeld : Below wd.heap.size wd wd := Below.refl _ _
        clear hb
        try clear C_0
        try clear R_0
        refine wpAnyH_take (i := 8) (oi := ⟨some 116, _, _, _, _, _⟩) (v := ?vna8_9) rfl (by kernel_rfl) (by kernel_rfl) (by kernel_rfl) (fun _ _ _ h => h) (Or.inl ⟨by rfl, ?hyna8_9⟩) (by assumption) ?restna8_9
        case hyna8_9 => intro W hSW; go_simp; try rfl
        try simp only [Act.put, List.setIfInBounds_toArray, List.set_cons_zero, List.set_cons_succ]
        refine wpAnyH_take (i := 9) (oi := ⟨some 117, _, _, _, _, _⟩) (v := ?vna9_10) rfl (by kernel_rfl) (by kernel_rfl) (by kernel_rfl) (fun _ _ _ h => h) (Or.inl ⟨by rfl, ?hyna9_10⟩) (by assumption) ?restna9_10
        case hyna9_10 => intro W hSW; go_simp; try rfl
        try simp only [Act.put, List.setIfInBounds_toArray, List.set_cons_zero, List.set_cons_succ]
        refine wpAnyH_take (i := 10) (oi := ⟨some 118, _, _, _, _, _⟩) (v := ?vna10_11) rfl (by kernel_rfl) (by kernel_rfl) (by kernel_rfl) (fun _ _ _ h => h) (Or.inl ⟨by rfl, ?hyna10_11⟩) (by assumption) ?restna10_11
        case hyna10_11 => intro W hSW; go_simp; try rfl
        try simp only [Act.put, List.setIfInBounds_toArray, List.set_cons_zero, List.set_cons_succ]
        refine wpAnyH_take (i := 11) (oi := ⟨some 119, _, _, _, _, _⟩) (v := ?vna11_12) rfl (by kernel_rfl) (by kernel_rfl) (by kernel_rfl) (fun _ _ _ h => h) (Or.inl ⟨by rfl, ?hyna11_12⟩) (by assumption) ?restna11_12
        case hyna11_12 => intro W hSW; go_simp; try rfl
        try simp only [Act.put, List.setIfInBounds_toArray, List.set_cons_zero, List.set_cons_succ]
        refine wpAnyH_take (i := 12) (oi := ⟨some 120, _, _, _, _, _⟩) (v := ?vna12_13) rfl (by kernel_rfl) (by kernel_rfl) (by kernel_rfl) (fun _ _ _ h => h) (Or.inl ⟨by rfl, ?hyna12_13⟩) (by assumption) ?restna12_13
        case hyna12_13 => intro W hSW; go_simp; try rfl
        try simp only [Act.put, List.setIfInBounds_toArray, List.set_cons_zero, List.set_cons_succ]
        refine wpAnyH_take (i := 13) (oi := ⟨some 121, _, _, _, _, _⟩) (v := ?vna13_14) rfl (by kernel_rfl) (by kernel_rfl) (by kernel_rfl) (fun _ _ _ h => h) (Or.inl ⟨by rfl, ?hyna13_14⟩) (by assumption) ?restna13_14
        case hyna13_14 => intro W hSW; go_simp; try rfl
        try simp only [Act.put, List.setIfInBounds_toArray, List.set_cons_zero, List.set_cons_succ]
        refine wpAnyH_take (i := 14) (oi := ⟨some 122, _, _, _, _, _⟩) (v := ?vna14_15) rfl (by kernel_rfl) (by kernel_rfl) (by kernel_rfl) (fun _ _ _ h => h) (Or.inl ⟨by rfl, ?hyna14_15⟩) (by assumption) ?restna14_15
        case hyna14_15 => intro W hSW; have c2 := (RCur.bel R_8.out hSW).c2; have c1 := (RCur.bel R_8.out hSW).c1; go_simp; try rfl
        try simp only [Act.put, List.setIfInBounds_toArray, List.set_cons_zero, List.set_cons_succ]
        refine wpAnyH_take (i := 15) (oi := ⟨some 123, _, _, _, _, _⟩) (v := ?vna15_16) rfl (by kernel_rfl) (by kernel_rfl) (by kernel_rfl) (fun _ _ _ h => h) (Or.inl ⟨by rfl, ?hyna15_16⟩) (by assumption) ?restna15_16
        case hyna15_16 => intro W hSW; go_simp; try rfl
        try simp only [Act.put, List.setIfInBounds_toArray, List.set_cons_zero, List.set_cons_succ]
        refine wpAnyH_take (i := 16) (oi := ⟨some 124, _, _, _, _, _⟩) (v := ?vna16_17) rfl (by kernel_rfl) (by kernel_rfl) (by kernel_rfl) (fun _ _ _ h => h) (Or.inl ⟨by rfl, ?hyna16_17⟩) (by assumption) ?restna16_17
        case hyna16_17 => intro W hSW; go_simp; try rfl
        try simp only [Act.put, List.setIfInBounds_toArray, List.set_cons_zero, List.set_cons_succ]
        refine wpAnyH_take (i := 17) (oi := ⟨some 125, _, _, _, _, _⟩) (v := ?vna17_18) rfl (by kernel_rfl) (by kernel_rfl) (by kernel_rfl) (fun _ _ _ h => h) (Or.inl ⟨by rfl, ?hyna17_18⟩) (by assumption) ?restna17_18
        case hyna17_18 => intro W hSW; go_simp; try rfl
        try simp only [Act.put, List.setIfInBounds_toArray, List.set_cons_zero, List.set_cons_succ]
        refine wpAnyH_take (i := 19) (oi := ⟨some 127, _, _, _, _, _⟩) (v := ?vna19_19) rfl (by kernel_rfl) (by kernel_rfl) (by kernel_rfl) (fun _ _ _ h => h) (Or.inl ⟨by rfl, ?hyna19_19⟩) (by assumption) ?restna19_19
        case hyna19_19 => intro W hSW; go_simp; try rfl
        try simp only [Act.put, List.setIfInBounds_toArray, List.set_cons_zero, List.set_cons_succ]
        refine wpAnyH_take (i := 20) (oi := ⟨some 128, _, _, _, _, _⟩) (v := ?vna20_20) rfl (by kernel_rfl) (by kernel_rfl) (by kernel_rfl) (fun _ _ _ h => h) (Or.inl ⟨by rfl, ?hyna20_20⟩) (by assumption) ?restna20_20
        case hyna20_20 => intro W hSW; go_simp; try rfl
        try simp only [Act.put, List.setIfInBounds_toArray, List.set_cons_zero, List.set_cons_succ]
        refine wpAnyH_take (i := 21) (oi := ⟨some 129, _, _, _, _, _⟩) (v := ?vna21_21) rfl (by kernel_rfl) (by kernel_rfl) (by kernel_rfl) (fun _ _ _ h => h) (Or.inl ⟨by rfl, ?hyna21_21⟩) (by assumption) ?restna21_21
        case hyna21_21 => intro W hSW; go_simp; try rfl
        try simp only [Act.put, List.setIfInBounds_toArray, List.set_cons_zero, List.set_cons_succ]
        refine wpAnyH_take (i := 22) (oi := ⟨some 130, _, _, _, _, _⟩) (v := ?vna22_22) rfl (by kernel_rfl) (by kernel_rfl) (by kernel_rfl) (fun _ _ _ h => h) (Or.inl ⟨by rfl, ?hyna22_22⟩) (by assumption) ?restna22_22
        case hyna22_22 => intro W hSW; have c2 := (RCur.bel R_8.out hSW).c2; have c1 := (RCur.bel R_8.out hSW).c1; go_simp; try rfl
        try simp only [Act.put, List.setIfInBounds_toArray, List.set_cons_zero, List.set_cons_succ]
        refine wpAnyH_ready (rs := [18]) (by kernel_rfl) (by simp) ?_
        refine (AllReadyH.cons (o := ⟨some 126, _, _, _, _, _⟩) rfl (fun K hK => ?_) AllReadyH.nil)
        · go_simp
          refine (AC.out _ g1 sv1 _ _ wd C_8.out).mono ?_
          rintro e _ ⟨rfl, rfl⟩
          have hb := Below.refl wd.heap.size wd
          have C_23 := Lib.hid (CursorAt.bel C_8.out hb)
          have R_23 := Lib.hid (RCur.bel R_8.out hb)
          refine hK.out _ _ ?_ (fun hHeld2 => ?_)
          · exact hb
          clear hK K hHeld
          have B_23 := Lib.hid (bel_after B_8.out (Nat.le_refl _) hb)
          clear hHeld2
          try simp only [Act.put, List.setIfInBounds_toArray, List.set_cons_zero, List.set_cons_succ]
          have hHeld : Below wd.heap.size wd wd := Below.refl _ _
          clear hb
          try clear C_8
          try clear R_8
          refine wpAnyH_take (i := 23) (oi := ⟨some 131, _, _, _, _, _⟩) (v := ?vna23_24) rfl (by kernel_rfl) (by kernel_rfl) (by kernel_rfl) (fun _ _ _ h => h) (Or.inl ⟨by rfl, ?hyna23_24⟩) (by assumption) ?restna23_24
          case hyna23_24 => intro W hSW; go_simp; try rfl
          try simp only [Act.put, List.setIfInBounds_toArray, List.set_cons_zero, List.set_cons_succ]
          refine wpAnyH_take (i := 24) (oi := ⟨some 132, _, _, _, _, _⟩) (v := ?vna24_25) rfl (by kernel_rfl) (by kernel_rfl) (by kernel_rfl) (fun _ _ _ h => h) (Or.inl ⟨by rfl, ?hyna24_25⟩) (by assumption) ?restna24_25
          case hyna24_25 => intro W hSW; go_simp; try rfl
          try simp only [Act.put, List.setIfInBounds_toArray, List.set_cons_zero, List.set_cons_succ]
          refine wpAnyH_take (i := 25) (oi := ⟨some 133, _, _, _, _, _⟩) (v := ?vna25_26) rfl (by kernel_rfl) (by kernel_rfl) (by kernel_rfl) (fun _ _ _ h => h) (Or.inl ⟨by rfl, ?hyna25_26⟩) (by assumption) ?restna25_26
          case hyna25_26 => intro W hSW; go_simp; try rfl
          try simp only [Act.put, List.setIfInBounds_toArray, List.set_cons_zero, List.set_cons_succ]
          refine wpAnyH_take (i := 26) (oi := ⟨some 4, _, _, _, _, _⟩) (v := ?vna26_27) rfl (by kernel_rfl) (by kernel_rfl) (by kernel_rfl) (fun _ _ _ h => h) (Or.inl ⟨by rfl, ?hyna26_27⟩) (by assumption) ?restna26_27
          case hyna26_27 => intro W hSW; go_simp; try rfl
          try simp only [Act.put, List.setIfInBounds_toArray, List.set_cons_zero, List.set_cons_succ]
          refine wpAnyH_done (by kernel_rfl) ?_ _
          go_wp2_with fail
          go_ret
          exact ⟨rfl, B7.out.trans (B_23.out.mono B7.out.size)⟩
    · have hne : (e' != 0) = true := by simpa using he
      refine wp_region_held_drew (S := (fun W => Below w7.heap.size w7 W)) (by kernel_rfl) (Below.refl _ _).drew (fun hHeld => ?_)
      have hHeld0 := hHeld
      have C_0 := Lib.hid (CursorAt.bel C7.out hHeld0)
      have R_0 := Lib.hid (RCur.bel R7.out hHeld0)
      generalize hwd : w7.drew = wd at *
      clear hwd hHeld0
      refine wpAnyH_more (S' := fun V => Below wd.heap.size wd V) (fun V h => bel_after hHeld (Nat.le_refl _) h) _ _ _ _ ?_
      have B_0 := Lib.hid hHeld
      clear hHeld
      have hHeld : Below wd.heap.size wd wd := Below.refl _ _
      refine wpAnyH_take (i := 0) (oi := ⟨some 108, _, _, _, _, _⟩) (v := ?vnb0_1) rfl (by kernel_rfl) (by kernel_rfl) (by kernel_rfl) (fun _ _ _ h => h) (Or.inl ⟨by rfl, ?hynb0_1⟩) (by assumption) ?restnb0_1
      case hynb0_1 => intro W hSW; go_simp; try rfl
      try simp only [Act.put, List.setIfInBounds_toArray, List.set_cons_zero, List.set_cons_succ]
      refine wpAnyH_take (i := 1) (oi := ⟨some 109, _, _, _, _, _⟩) (v := ?vnb1_2) rfl (by kernel_rfl) (by kernel_rfl) (by kernel_rfl) (fun _ _ _ h => h) (Or.inl ⟨by rfl, ?hynb1_2⟩) (by assumption) ?restnb1_2
      case hynb1_2 => intro W hSW; go_simp; try rfl
      try simp only [Act.put, List.setIfInBounds_toArray, List.set_cons_zero, List.set_cons_succ]
      refine wpAnyH_take (i := 2) (oi := ⟨some 110, _, _, _, _, _⟩) (v := ?vnb2_3) rfl (by kernel_rfl) (by kernel_rfl) (by kernel_rfl) (fun _ _ _ h => h) (Or.inl ⟨by rfl, ?hynb2_3⟩) (by assumption) ?restnb2_3
      case hynb2_3 => intro W hSW; go_simp; try rfl
      try simp only [Act.put, List.setIfInBounds_toArray, List.set_cons_zero, List.set_cons_succ]
      refine wpAnyH_take (i := 4) (oi := ⟨some 112, _, _, _, _, _⟩) (v := ?vnb4_4) rfl (by kernel_rfl) (by kernel_rfl) (by kernel_rfl) (fun _ _ _ h => h) (Or.inl ⟨by rfl, ?hynb4_4⟩) (by assumption) ?restnb4_4
      case hynb4_4 => intro W hSW; go_simp; try rfl
      try simp only [Act.put, List.setIfInBounds_toArray, List.set_cons_zero, List.set_cons_succ]
      refine wpAnyH_take (i := 5) (oi := ⟨some 113, _, _, _, _, _⟩) (v := ?vnb5_5) rfl (by kernel_rfl) (by kernel_rfl) (by kernel_rfl) (fun _ _ _ h => h) (Or.inl ⟨by rfl, ?hynb5_5⟩) (by assumption) ?restnb5_5
      case hynb5_5 => intro W hSW; go_simp; try rfl
      try simp only [Act.put, List.setIfInBounds_toArray, List.set_cons_zero, List.set_cons_succ]
      refine wpAnyH_take (i := 6) (oi := ⟨some 114, _, _, _, _, _⟩) (v := ?vnb6_6) rfl (by kernel_rfl) (by kernel_rfl) (by kernel_rfl) (fun _ _ _ h => h) (Or.inl ⟨by rfl, ?hynb6_6⟩) (by assumption) ?restnb6_6
      case hynb6_6 => intro W hSW; go_simp; try rfl
      try simp only [Act.put, List.setIfInBounds_toArray, List.set_cons_zero, List.set_cons_succ]
      refine wpAnyH_take (i := 7) (oi := ⟨some 115, _, _, _, _, _⟩) (v := ?vnb7_7) rfl (by kernel_rfl) (by kernel_rfl) (by kernel_rfl) (fun _ _ _ h => h) (Or.inl ⟨by rfl, ?hynb7_7⟩) (by assumption) ?restnb7_7
      case hynb7_7 => intro W hSW; have c2 := (RCur.bel R_0.out hSW).c2; have c1 := (RCur.bel R_0.out hSW).c1; go_simp; try rfl
      try simp only [Act.put, List.setIfInBounds_toArray, List.set_cons_zero, List.set_cons_succ]
      refine wpAnyH_ready (rs := [3]) (by kernel_rfl) (by simp) ?_
      refine (AllReadyH.cons (o := ⟨some 111, _, _, _, _, _⟩) rfl (fun K hK => ?_) AllReadyH.nil)
      · go_simp
        refine (EC.out _ g1 sv1 _ _ wd C_0.out).mono ?_
        rintro e _ ⟨rfl, rfl⟩
        have hb := Below.refl wd.heap.size wd
        have C_8 := Lib.hid (CursorAt.bel C_0.out hb)
        have R_8 := Lib.hid (RCur.bel R_0.out hb)
        refine hK.out _ _ ?_ (fun hHeld2 => ?_)
        · exact hb
        clear hK K hHeld
        have B_8 := Lib.hid (bel_after B_0.out (Nat.le_refl _) hb)
        clear hHeld2
        try simp only [Act.put, List.setIfInBounds_toArray, List.set_cons_zero, List.set_cons_succ]
        have hHeld : Below wd.heap.size wd wd := Below.refl _ _
        clear hb
        try clear C_0
        try clear R_0
        refine wpAnyH_take (i := 8) (oi := ⟨some 116, _, _, _, _, _⟩) (v := ?vnb8_9) rfl (by kernel_rfl) (by kernel_rfl) (by kernel_rfl) (fun _ _ _ h => h) (Or.inl ⟨by rfl, ?hynb8_9⟩) (by assumption) ?restnb8_9
        case hynb8_9 => intro W hSW; go_simp; try rfl
        try simp only [Act.put, List.setIfInBounds_toArray, List.set_cons_zero, List.set_cons_succ]
        refine wpAnyH_take (i := 9) (oi := ⟨some 117, _, _, _, _, _⟩) (v := ?vnb9_10) rfl (by kernel_rfl) (by kernel_rfl) (by kernel_rfl) (fun _ _ _ h => h) (Or.inl ⟨by rfl, ?hynb9_10⟩) (by assumption) ?restnb9_10
        case hynb9_10 => intro W hSW; go_simp; try rfl
        try simp only [Act.put, List.setIfInBounds_toArray, List.set_cons_zero, List.set_cons_succ]
        refine wpAnyH_take (i := 10) (oi := ⟨some 118, _, _, _, _, _⟩) (v := ?vnb10_11) rfl (by kernel_rfl) (by kernel_rfl) (by kernel_rfl) (fun _ _ _ h => h) (Or.inl ⟨by rfl, ?hynb10_11⟩) (by assumption) ?restnb10_11
        case hynb10_11 => intro W hSW; go_simp; try rfl
        try simp only [Act.put, List.setIfInBounds_toArray, List.set_cons_zero, List.set_cons_succ]
        refine wpAnyH_take (i := 11) (oi := ⟨some 119, _, _, _, _, _⟩) (v := ?vnb11_12) rfl (by kernel_rfl) (by kernel_rfl) (by kernel_rfl) (fun _ _ _ h => h) (Or.inl ⟨by rfl, ?hynb11_12⟩) (by assumption) ?restnb11_12
        case hynb11_12 => intro W hSW; go_simp; try rfl
        try simp only [Act.put, List.setIfInBounds_toArray, List.set_cons_zero, List.set_cons_succ]
        refine wpAnyH_take (i := 12) (oi := ⟨some 120, _, _, _, _, _⟩) (v := ?vnb12_13) rfl (by kernel_rfl) (by kernel_rfl) (by kernel_rfl) (fun _ _ _ h => h) (Or.inl ⟨by rfl, ?hynb12_13⟩) (by assumption) ?restnb12_13
        case hynb12_13 => intro W hSW; go_simp; try rfl
        try simp only [Act.put, List.setIfInBounds_toArray, List.set_cons_zero, List.set_cons_succ]
        refine wpAnyH_take (i := 13) (oi := ⟨some 121, _, _, _, _, _⟩) (v := ?vnb13_14) rfl (by kernel_rfl) (by kernel_rfl) (by kernel_rfl) (fun _ _ _ h => h) (Or.inl ⟨by rfl, ?hynb13_14⟩) (by assumption) ?restnb13_14
        case hynb13_14 => intro W hSW; go_simp; try rfl
        try simp only [Act.put, List.setIfInBounds_toArray, List.set_cons_zero, List.set_cons_succ]
        refine wpAnyH_take (i := 14) (oi := ⟨some 122, _, _, _, _, _⟩) (v := ?vnb14_15) rfl (by kernel_rfl) (by kernel_rfl) (by kernel_rfl) (fun _ _ _ h => h) (Or.inl ⟨by rfl, ?hynb14_15⟩) (by assumption) ?restnb14_15
        case hynb14_15 => intro W hSW; have c2 := (RCur.bel R_8.out hSW).c2; have c1 := (RCur.bel R_8.out hSW).c1; go_simp; try rfl
        try simp only [Act.put, List.setIfInBounds_toArray, List.set_cons_zero, List.set_cons_succ]
        refine wpAnyH_take (i := 15) (oi := ⟨some 123, _, _, _, _, _⟩) (v := ?vnb15_16) rfl (by kernel_rfl) (by kernel_rfl) (by kernel_rfl) (fun _ _ _ h => h) (Or.inl ⟨by rfl, ?hynb15_16⟩) (by assumption) ?restnb15_16
        case hynb15_16 => intro W hSW; go_simp; try rfl
        try simp only [Act.put, List.setIfInBounds_toArray, List.set_cons_zero, List.set_cons_succ]
        refine wpAnyH_take (i := 16) (oi := ⟨some 124, _, _, _, _, _⟩) (v := ?vnb16_17) rfl (by kernel_rfl) (by kernel_rfl) (by kernel_rfl) (fun _ _ _ h => h) (Or.inl ⟨by rfl, ?hynb16_17⟩) (by assumption) ?restnb16_17
        case hynb16_17 => intro W hSW; go_simp; try rfl
        try simp only [Act.put, List.setIfInBounds_toArray, List.set_cons_zero, List.set_cons_succ]
        refine wpAnyH_take (i := 17) (oi := ⟨some 125, _, _, _, _, _⟩) (v := undef) rfl (by kernel_rfl) (by kernel_rfl) (by kernel_rfl) (fun _ _ _ h => h) (Or.inr ⟨by rfl, rfl⟩) (by assumption) ?restnb17_18
        try simp only [Act.put, List.setIfInBounds_toArray, List.set_cons_zero, List.set_cons_succ]
        refine wpAnyH_take (i := 18) (oi := ⟨some 126, _, _, _, _, _⟩) (v := undef) rfl (by kernel_rfl) (by kernel_rfl) (by kernel_rfl) (fun _ _ _ h => h) (Or.inr ⟨by rfl, rfl⟩) (by assumption) ?restnb18_19
        try simp only [Act.put, List.setIfInBounds_toArray, List.set_cons_zero, List.set_cons_succ]
        refine wpAnyH_take (i := 19) (oi := ⟨some 127, _, _, _, _, _⟩) (v := undef) rfl (by kernel_rfl) (by kernel_rfl) (by kernel_rfl) (fun _ _ _ h => h) (Or.inr ⟨by rfl, rfl⟩) (by assumption) ?restnb19_20
        try simp only [Act.put, List.setIfInBounds_toArray, List.set_cons_zero, List.set_cons_succ]
        refine wpAnyH_take (i := 20) (oi := ⟨some 128, _, _, _, _, _⟩) (v := undef) rfl (by kernel_rfl) (by kernel_rfl) (by kernel_rfl) (fun _ _ _ h => h) (Or.inr ⟨by rfl, rfl⟩) (by assumption) ?restnb20_21
        try simp only [Act.put, List.setIfInBounds_toArray, List.set_cons_zero, List.set_cons_succ]
        refine wpAnyH_take (i := 21) (oi := ⟨some 129, _, _, _, _, _⟩) (v := undef) rfl (by kernel_rfl) (by kernel_rfl) (by kernel_rfl) (fun _ _ _ h => h) (Or.inr ⟨by rfl, rfl⟩) (by assumption) ?restnb21_22
        try simp only [Act.put, List.setIfInBounds_toArray, List.set_cons_zero, List.set_cons_succ]
        refine wpAnyH_take (i := 22) (oi := ⟨some 130, _, _, _, _, _⟩) (v := undef) rfl (by kernel_rfl) (by kernel_rfl) (by kernel_rfl) (fun _ _ _ h => h) (Or.inr ⟨by rfl, rfl⟩) (by assumption) ?restnb22_23
        try simp only [Act.put, List.setIfInBounds_toArray, List.set_cons_zero, List.set_cons_succ]
        refine wpAnyH_take (i := 23) (oi := ⟨some 131, _, _, _, _, _⟩) (v := undef) rfl (by kernel_rfl) (by kernel_rfl) (by kernel_rfl) (fun _ _ _ h => h) (Or.inr ⟨by rfl, rfl⟩) (by assumption) ?restnb23_24
        try simp only [Act.put, List.setIfInBounds_toArray, List.set_cons_zero, List.set_cons_succ]
        refine wpAnyH_take (i := 24) (oi := ⟨some 132, _, _, _, _, _⟩) (v := ?vnb24_25) rfl (by kernel_rfl) (by kernel_rfl) (by kernel_rfl) (fun _ _ _ h => h) (Or.inl ⟨by rfl, ?hynb24_25⟩) (by assumption) ?restnb24_25
        case hynb24_25 => intro W hSW; go_simp; try rfl
        try simp only [Act.put, List.setIfInBounds_toArray, List.set_cons_zero, List.set_cons_succ]
        refine wpAnyH_take (i := 25) (oi := ⟨some 133, _, _, _, _, _⟩) (v := ?vnb25_26) rfl (by kernel_rfl) (by kernel_rfl) (by kernel_rfl) (fun _ _ _ h => h) (Or.inl ⟨by rfl, ?hynb25_26⟩) (by assumption) ?restnb25_26
        case hynb25_26 => intro W hSW; go_simp; try rfl
        try simp only [Act.put, List.setIfInBounds_toArray, List.set_cons_zero, List.set_cons_succ]
        refine wpAnyH_take (i := 26) (oi := ⟨some 4, _, _, _, _, _⟩) (v := ?vnb26_27) rfl (by kernel_rfl) (by kernel_rfl) (by kernel_rfl) (fun _ _ _ h => h) (Or.inl ⟨by rfl, ?hynb26_27⟩) (by assumption) ?restnb26_27
        case hynb26_27 => intro W hSW; go_simp; try rfl
        try simp only [Act.put, List.setIfInBounds_toArray, List.set_cons_zero, List.set_cons_succ]
        refine wpAnyH_done (by kernel_rfl) ?_ _
        go_wp2_with fail
        go_ret
        exact ⟨rfl, B7.out.trans (B_8.out.mono B7.out.size)⟩

theorem reads_law (A : Option Addr) (n c : Nat) (k : Int) (hk : (Lit.int .u8 k).wf = true) (hc : c ≤ 9223372036854775807) (w : World) (h : ∃ bs : List Nat, bs.length = n ∧ (∀ y ∈ bs, y < 256) ∧ Seen w w.heap.size 1 A n c (bv bs)) : Calls Try.prog 4 #[.slice A n c, .int .u8 k] w (LawPost w) := by
  obtain ⟨bs, hl, h256, hs⟩ := h
  obtain ⟨m, hm, rfl⟩ : ∃ m : Nat, m < 256 ∧ k = m := by
    simp [Lit.wf, IntKind.min, IntKind.max, IntKind.signed, IntKind.bits] at hk
    exact ⟨k.toNat, by omega, by omega⟩
  by_cases hn : n ≤ 600
  · exact reads_short A n c bs hl h256 m hm hn hc w hs
  · exact reads_long A n c m (by omega) w
end Go.Proofs.Ytplilajgncfieaa
