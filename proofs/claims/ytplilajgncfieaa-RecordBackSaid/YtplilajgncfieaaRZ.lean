/-
  RecordBack: what is written of a record that may be is read. Conditions: none (names of more than 300 bytes are not asked).
-/
import Derived.Test.YtplilajgncfieaaRO
import Derived.Test.YtplilajgncfieaaRY
namespace Go.Proofs.Ytplilajgncfieaa
open Go.RowKit
set_option maxRecDepth 100000

theorem back_long (na : ByteArray) (da cl su pa si of : Nat) (mt be : Bool) (hn : 300 < na.size) (w : World) :
    Calls Try.prog 5 #[.string na, .agg #[.int .u16 da, .int .u16 cl], .int .u32 su, .int .u32 pa, .int .u32 si, .int .u32 of, .bool mt, .bool be] w (LawPost w) := by
  have FX := Lib.hid (fun W => fixed_yes W)
  have hd : decide ((300 : Int) < na.size) = true := by simp; omega
  have B0 := Lib.hid ((Below.refl w.heap.size w).alloc (Nat.le_refl _) (.cells #[.int .u16 da, .int .u16 cl] 24))
  go_enter Try.func5, Try.ntmps5
  go_wp2_with fail
  generalize w.alloc _ = w0 at B0 ⊢
  refine (FX.out w0).mono ?_
  rintro e w1 ⟨rfl, hb⟩
  have B1 := Lib.hid (bel_after B0.out (Nat.le_refl _) hb)
  clear hb
  go_wp2_with fail
  go_ret
  exact ⟨rfl, B1.out⟩

theorem newN (bs : List Nat) (n : Nat) (hn : bs.length = n) (hb : n ≤ 1000000) (A : Option Addr) (c : Nat) (W : World) (hs : Seen W W.heap.size 1 A n c (bv bs)) : Calls Try.prog 15 #[.slice A n c] W (NewC W bs) := by
  subst hn
  exact newC_any A c W.heap.size bs W hs (Nat.le_refl _) hb

set_option linter.unusedSimpArgs false in
set_option maxHeartbeats 16000000 in
theorem back_short (na : ByteArray) (da cl su pa si of : Nat) (hda : da < 65536) (hcl : cl < 65536) (hsu : su < 4294967296) (hpa : pa < 4294967296) (hsi : si < 4294967296) (hof : of < 4294967296) (mt be : Bool) (hn : na.size ≤ 300) (w : World) :
    Calls Try.prog 5 #[.string na, .agg #[.int .u16 da, .int .u16 cl], .int .u32 su, .int .u32 pa, .int .u32 si, .int .u32 of, .bool mt, .bool be] w (LawPost w) := by
  have FX := Lib.hid (fun W => fixed_yes W)
  have hd : decide ((300 : Int) < na.size) = false := by simp; omega
  have wp := nat_wrap64 (n := pa) (by omega)
  have ws := nat_wrap64 (n := si) (by omega)
  have wo := nat_wrap64 (n := of) (by omega)
  have HDA := Lib.hid hda; have HCL := Lib.hid hcl; have HSU := Lib.hid hsu; have HPA := Lib.hid hpa; have HSI := Lib.hid hsi; have HOF := Lib.hid hof; have HN := Lib.hid hn
  have M0 := Lib.hid (Whole.new w 24 #[.int .u16 da, .int .u16 cl])
  have B0 := Lib.hid ((Below.refl w.heap.size w).alloc (Nat.le_refl _) (.cells #[.int .u16 da, .int .u16 cl] 24))
  clear hda hcl hsu hpa hsi hof hn
  go_enter Try.func5, Try.ntmps5
  go_wp2_with fail
  generalize w.alloc _ = w0 at M0 B0 ⊢
  obtain ⟨gm, hgm⟩ : ∃ g, w.heap.size = g := ⟨_, rfl⟩
  rw [hgm] at M0 ⊢
  clear hgm
  refine (FX.out w0).mono ?_
  rintro e w1 ⟨rfl, hb⟩
  have B1 := Lib.hid (bel_after B0.out (Nat.le_refl _) hb)
  have M1 := Whole.bel M0.out hb
  have m0 : w1.cell? ⟨gm, 0, none⟩ = some (.int .u16 da) := by rw [M1.cell]; rfl
  have m1 : w1.cell? ⟨gm, 1, none⟩ = some (.int .u16 cl) := by rw [M1.cell]; rfl
  clear hb M0 B0 FX M1
  -- the record
  have NW := Lib.hid (Whole.new w1 27 #[.int .i64 0, .int .u16 0, .int .u16 0, .int .u32 0, .int .i64 0, .int .i64 0, .string ⟨#[]⟩, .int .i64 0])
  have NB := Lib.hid (below_setRow ((Below.refl w1.heap.size w1).alloc (Nat.le_refl _) (.cells #[.int .i64 0, .int .u16 0, .int .u16 0, .int .u32 0, .int .i64 0, .int .i64 0, .string ⟨#[]⟩, .int .i64 0] 27)) (g := w1.heap.size) (recC (rcd 0 da cl su pa si of na)) (Nat.le_refl _))
  have P2 : Hid (RecAt ((w1.alloc (.cells #[.int .i64 0, .int .u16 0, .int .u16 0, .int .u32 0, .int .i64 0, .int .i64 0, .string ⟨#[]⟩, .int .i64 0] 27)).setRow w1.heap.size (recC (rcd 0 da cl su pa si of na))) w1.heap.size (rcd 0 da cl su pa si of na)) := Lib.hid (NW.out.setRow (recC (rcd 0 da cl su pa si of na)))
  have B2 := Lib.hid (bel_after B1.out (Nat.le_refl _) NB.out)
  have hgr0 : w.heap.size ≤ w1.heap.size := B1.out.size
  go_upto_if 42 with (refine wpList_store_row rfl 27 (.tmp 17) (.tmp 41) rfl w1.heap.size (recC (rcd 0 da cl su pa si of na)) rfl rfl 27 #[.int .i64 0, .int .u16 0, .int .u16 0, .int .u32 0, .int .i64 0, .int .i64 0, .string ⟨#[]⟩, .int .i64 0] NW.out (rec_size (rcd 0 da cl su pa si of na)) rfl (rec_one (rcd 0 da cl su pa si of na)) ?_)
  try simp only [Act.put]
  obtain ⟨gr, hgr⟩ : ∃ g, w1.heap.size = g := ⟨_, rfl⟩
  rw [hgr] at P2 B2 hgr0 ⊢
  clear NW NB B1 hgr m0 m1
  generalize (w1.alloc _).setRow gr _ = w2 at *
  go_cut [17] (fun s17 wx => s17 = .pointer (some ⟨gr, 0, none⟩) ∧ ∃ me : Nat, Hid ((me = 0 ∨ me = 8) ∧ RecAt wx gr (rcd me da cl su pa si of na) ∧ Below w.heap.size w wx))
  case first =>
    have fr := Whole.frozen P2.out 0
    obtain ⟨k0, _⟩ := RecAt.cells P2.out
    cases mt
    · go_wp2_with fail
      go_meet
      case rel => exact ⟨rfl, 0, Lib.hid ⟨.inl rfl, P2.out, B2.out⟩⟩
    · have Q := Lib.hid (Whole.put P2.out 0 (.int .i64 8))
      have QB := Lib.hid (B2.out.setCell (p := ⟨gr, 0, none⟩) hgr0 (.int .i64 8))
      go_wp2_with fail
      go_meet
      case rel => exact ⟨rfl, 8, Lib.hid ⟨.inr rfl, by simpa [recC, rcd, RecAt] using Q.out, QB.out⟩⟩
  case rest =>
  obtain ⟨rfl, me, hx⟩ := hcut
  obtain ⟨hme, R3, B3⟩ := hx.out
  have R3 := Lib.hid R3; have B3 := Lib.hid B3
  clear hx P2 B2
  have hri : RecIn ⟨me, da, cl, su, pa, si, na, of⟩ := ⟨HDA.out, HCL.out, HSU.out⟩
  have CW := Lib.hid (fun W => central_any me da cl su pa si na of hri (by have := HN.out; omega) be W)
  have LW := Lib.hid (fun W => local_any me da cl su pa si na of hri (by have := HN.out; omega) be W)
  have BW := Lib.hid (fun W => behind_any me da cl su pa si na of hri W)
  have CRD := Lib.hid (readCentral_back me da cl su pa si of na hme HDA.out HCL.out HSU.out HPA.out HSI.out HOF.out (by have := HN.out; omega) be)
  obtain ⟨su', pa', si', hz1, hz2, hLR⟩ := readLocal_back me da cl su pa si of na hme HDA.out HCL.out HSU.out HPA.out HSI.out (by have := HN.out; omega) be
  have LRD := Lib.hid hLR
  have BRD := Lib.hid (readBehind_back (rcd me da cl su pa si of na) su pa si ⟨rfl, rfl, rfl⟩ HSU.out HPA.out HSI.out)
  have hLC : (centralL (rcd me da cl su pa si of na) be).length = 46 + na.size := by simp [centralL, putL_length, sharedL_length, strL_length, rcd]; omega
  have hLL : (localL (rcd me da cl su pa si of na) be).length = 30 + na.size := by simp [localL, putL_length, sharedL_length, strL_length, rcd]; omega
  have hLB : (behindL (rcd me da cl su pa si of na)).length = 16 := by simp [behindL, putL_length]
  have hn300 := HN.out
  obtain ⟨NC, hNC⟩ : ∃ n, 46 + na.size = n := ⟨_, rfl⟩
  obtain ⟨NL, hNL⟩ : ∃ n, 30 + na.size = n := ⟨_, rfl⟩
  have CN := Lib.hid (newN (centralL (rcd me da cl su pa si of na) be) NC (by omega) (by omega))
  have LN := Lib.hid (newN (localL (rcd me da cl su pa si of na) be) NL (by omega) (by omega))
  have BN := Lib.hid (newN (behindL (rcd me da cl su pa si of na)) 16 hLB (by omega))
  have CE := Lib.hid (fun B g sv W hW => endC_any B g sv (centralL (rcd me da cl su pa si of na) be) NC 0 W hW (by omega) (by omega))
  have LE := Lib.hid (fun B g sv W hW => endC_any B g sv (localL (rcd me da cl su pa si of na) be) NL 0 W hW (by omega) (by omega))
  have BE := Lib.hid (fun B g sv W hW => endC_any B g sv (behindL (rcd me da cl su pa si of na)) 16 0 W hW (by omega) (by omega))
  rw [show endErr (centralL (rcd me da cl su pa si of na) be) NC 0 = 0 by unfold endErr; simp [hLC, hNC]] at CE
  rw [show endErr (localL (rcd me da cl su pa si of na) be) NL 0 = 0 by unfold endErr; simp [hLL, hNL]] at LE
  rw [show endErr (behindL (rcd me da cl su pa si of na)) 16 0 = 0 by unfold endErr; simp [hLB]] at BE
  rw [show (⟨me, da, cl, su, pa, si, na, of⟩ : Rec) = rcd me da cl su pa si of na from rfl] at CW LW BW
  rw [hNC] at CW CRD
  rw [hNL] at LW LRD
  have HZ := Lib.hid hz1; have HZ2 := Lib.hid hz2
  clear hz1 hz2 hLR hLC hLL hLB hn300 hNC hNL hri hme HDA HCL HSU HPA HSI HOF HN
  generalize centralL (rcd me da cl su pa si of na) be = LC at *
  generalize localL (rcd me da cl su pa si of na) be = LL at *
  generalize behindL (rcd me da cl su pa si of na) = LB at *
  obtain ⟨k0, k1, k2, k3, k4, k5, k6, k7⟩ := RecAt.cells R3.out
  go_wp2_with fail
  refine (CW.out wc).mono ?_
  rintro e u4 ⟨va, rfl, ho, hb⟩
  obtain ⟨Aa, ka, rfl, _, hs⟩ := own_seen ho
  have SA := Lib.hid hs; clear ho hs
  clear k0 k1 k2 k3 k4 k5 k6 k7
  have R_4 := Lib.hid (RecAt.bel R3.out hb)
  clear R3
  have B_4 := Lib.hid (bel_after B3.out (Nat.le_refl _) hb)
  clear B3
  clear hb
  go_wp2_with fail
  refine (CN.out Aa ka u4 SA.out).mono ?_
  rintro e u5 ⟨gc, svc, rfl, hc, hb⟩
  have hgc : w.heap.size ≤ gc := Nat.le_trans B_4.out.size hc.1
  have Cc := Lib.hid hc; clear hc SA
  have R_5 := Lib.hid (RecAt.bel R_4.out hb)
  clear R_4
  have B_5 := Lib.hid (bel_after B_4.out (Nat.le_refl _) hb)
  clear B_4
  clear hb
  go_wp2_with fail
  refine (CRD.out _ gc svc u5 Cc.out).mono ?_
  rintro e r6 ⟨rfl, hc, ho⟩
  have R_6 := Lib.hid (show RecAt _ _ _ from Whole.only R_5.out ho (Whole.ne R_5.out Cc.out.2.1 (by decide)))
  clear R_5
  have B_6 : Hid (Below w.heap.size w r6) := Lib.hid (B_5.out.trans (ho.below B_5.out.size (fun k hk => by omega)))
  clear B_5
  have Cc_6 := Lib.hid hc; clear hc ho Cc
  have NW := Lib.hid (Whole.new r6 27 #[.int .i64 0, .int .u16 0, .int .u16 0, .int .u32 0, .int .i64 0, .int .i64 0, .string ⟨#[]⟩, .int .i64 0])
  have NB := Lib.hid (below_setRow ((Below.refl r6.heap.size r6).alloc (Nat.le_refl _) (.cells #[.int .i64 0, .int .u16 0, .int .u16 0, .int .u32 0, .int .i64 0, .int .i64 0, .string ⟨#[]⟩, .int .i64 0] 27)) (g := r6.heap.size) (recC ⟨me, da, cl, su, pa, si, na, of⟩) (Nat.le_refl _))
  have NF : Hid (RecAt ((r6.alloc (.cells #[.int .i64 0, .int .u16 0, .int .u16 0, .int .u32 0, .int .i64 0, .int .i64 0, .string ⟨#[]⟩, .int .i64 0] 27)).setRow r6.heap.size (recC ⟨me, da, cl, su, pa, si, na, of⟩)) r6.heap.size ⟨me, da, cl, su, pa, si, na, of⟩) := Lib.hid (NW.out.setRow (recC ⟨me, da, cl, su, pa, si, na, of⟩))
  have hwgX : w.heap.size ≤ r6.heap.size := B_6.out.size
  go_upto_region 10 with (refine wpList_store_row rfl 27 (.tmp 19) (.tmp 51) rfl r6.heap.size (recC ⟨me, da, cl, su, pa, si, na, of⟩) rfl rfl 27 #[.int .i64 0, .int .u16 0, .int .u16 0, .int .u32 0, .int .i64 0, .int .i64 0, .string ⟨#[]⟩, .int .i64 0] NW.out (rec_size ⟨me, da, cl, su, pa, si, na, of⟩) rfl (rec_one ⟨me, da, cl, su, pa, si, na, of⟩) ?_)
  try simp only [Act.put]
  have R_7 := Lib.hid (RecAt.bel R_6.out NB.out)
  clear R_6
  have Cc_7 := Lib.hid (CursorAt.bel Cc_6.out NB.out)
  clear Cc_6
  have B_7 := Lib.hid (bel_after B_6.out (Nat.le_refl _) NB.out)
  clear B_6
  obtain ⟨gX, hgX⟩ : ∃ g, r6.heap.size = g := ⟨_, rfl⟩
  rw [hgX] at NF hwgX B_7 R_7 Cc_7 ⊢
  clear NW NB hgX
  generalize (r6.alloc _).setRow gX _ = v7 at *
  have NF_X := NF; clear NF
  obtain ⟨k0, k1, k2, k3, k4, k5, k6, k7⟩ := RecAt.cells R_7.out
  go_wp2_with fail
  refine (LW.out v7).mono ?_
  rintro e u8 ⟨va, rfl, ho, hb⟩
  obtain ⟨Aa, ka, rfl, _, hs⟩ := own_seen ho
  have SA := Lib.hid hs; clear ho hs
  clear k0 k1 k2 k3 k4 k5 k6 k7
  have R_8 := Lib.hid (RecAt.bel R_7.out hb)
  clear R_7
  have Cc_8 := Lib.hid (CursorAt.bel Cc_7.out hb)
  clear Cc_7
  have X_8 := Lib.hid (RecAt.bel NF_X.out hb)
  clear NF_X
  have B_8 := Lib.hid (bel_after B_7.out (Nat.le_refl _) hb)
  clear B_7
  clear hb
  go_wp2_with fail
  refine (LN.out Aa ka u8 SA.out).mono ?_
  rintro e u9 ⟨gl, svl, rfl, hc, hb⟩
  have hcl : gc ≠ gl := by have h1 := Cc_8.out.2.1.lt; have h2 := hc.1; omega
  have hlc := Ne.symm hcl
  have hgl : w.heap.size ≤ gl := Nat.le_trans B_8.out.size hc.1
  have Cl := Lib.hid hc; clear hc SA
  have R_9 := Lib.hid (RecAt.bel R_8.out hb)
  clear R_8
  have Cc_9 := Lib.hid (CursorAt.bel Cc_8.out hb)
  clear Cc_8
  have X_9 := Lib.hid (RecAt.bel X_8.out hb)
  clear X_8
  have B_9 := Lib.hid (bel_after B_8.out (Nat.le_refl _) hb)
  clear B_8
  clear hb
  go_wp2_with fail
  refine (LRD.out _ gl svl u9 Cl.out).mono ?_
  rintro e r10 ⟨rfl, hc, ho⟩
  have R_10 := Lib.hid (show RecAt _ _ _ from Whole.only R_9.out ho (Whole.ne R_9.out Cl.out.2.1 (by decide)))
  clear R_9
  have Cc_10 := Lib.hid (CursorAt.apart Cc_9.out ho (hcl) Cl.out.2.1)
  clear Cc_9
  have X_10 := Lib.hid (show RecAt _ _ _ from Whole.only X_9.out ho (Whole.ne X_9.out Cl.out.2.1 (by decide)))
  clear X_9
  have B_10 : Hid (Below w.heap.size w r10) := Lib.hid (B_9.out.trans (ho.below B_9.out.size (fun k hk => by omega)))
  clear B_9
  have Cl_10 := Lib.hid hc; clear hc ho Cl
  have NW := Lib.hid (Whole.new r10 27 #[.int .i64 0, .int .u16 0, .int .u16 0, .int .u32 0, .int .i64 0, .int .i64 0, .string ⟨#[]⟩, .int .i64 0])
  have NB := Lib.hid (below_setRow ((Below.refl r10.heap.size r10).alloc (Nat.le_refl _) (.cells #[.int .i64 0, .int .u16 0, .int .u16 0, .int .u32 0, .int .i64 0, .int .i64 0, .string ⟨#[]⟩, .int .i64 0] 27)) (g := r10.heap.size) (recC ⟨me, da, cl, su', pa', si', na, 0⟩) (Nat.le_refl _))
  have NF : Hid (RecAt ((r10.alloc (.cells #[.int .i64 0, .int .u16 0, .int .u16 0, .int .u32 0, .int .i64 0, .int .i64 0, .string ⟨#[]⟩, .int .i64 0] 27)).setRow r10.heap.size (recC ⟨me, da, cl, su', pa', si', na, 0⟩)) r10.heap.size ⟨me, da, cl, su', pa', si', na, 0⟩) := Lib.hid (NW.out.setRow (recC ⟨me, da, cl, su', pa', si', na, 0⟩))
  have hwgY : w.heap.size ≤ r10.heap.size := B_10.out.size
  go_upto_region 12 with (refine wpList_store_row rfl 27 (.tmp 22) (.tmp 60) rfl r10.heap.size (recC ⟨me, da, cl, su', pa', si', na, 0⟩) rfl rfl 27 #[.int .i64 0, .int .u16 0, .int .u16 0, .int .u32 0, .int .i64 0, .int .i64 0, .string ⟨#[]⟩, .int .i64 0] NW.out (rec_size ⟨me, da, cl, su', pa', si', na, 0⟩) rfl (rec_one ⟨me, da, cl, su', pa', si', na, 0⟩) ?_)
  try simp only [Act.put]
  have R_11 := Lib.hid (RecAt.bel R_10.out NB.out)
  clear R_10
  have Cc_11 := Lib.hid (CursorAt.bel Cc_10.out NB.out)
  clear Cc_10
  have X_11 := Lib.hid (RecAt.bel X_10.out NB.out)
  clear X_10
  have Cl_11 := Lib.hid (CursorAt.bel Cl_10.out NB.out)
  clear Cl_10
  have B_11 := Lib.hid (bel_after B_10.out (Nat.le_refl _) NB.out)
  clear B_10
  obtain ⟨gY, hgY⟩ : ∃ g, r10.heap.size = g := ⟨_, rfl⟩
  rw [hgY] at NF hwgY B_11 R_11 Cc_11 X_11 Cl_11 ⊢
  clear NW NB hgY
  generalize (r10.alloc _).setRow gY _ = v11 at *
  have NF_Y := NF; clear NF
  obtain ⟨k0, k1, k2, k3, k4, k5, k6, k7⟩ := RecAt.cells R_11.out
  go_wp2_with fail
  refine (BW.out v11).mono ?_
  rintro e u12 ⟨va, rfl, ho, hb⟩
  obtain ⟨Aa, ka, rfl, _, hs⟩ := own_seen ho
  have SA := Lib.hid hs; clear ho hs
  clear k0 k1 k2 k3 k4 k5 k6 k7
  have R_12 := Lib.hid (RecAt.bel R_11.out hb)
  clear R_11
  have Cc_12 := Lib.hid (CursorAt.bel Cc_11.out hb)
  clear Cc_11
  have X_12 := Lib.hid (RecAt.bel X_11.out hb)
  clear X_11
  have Cl_12 := Lib.hid (CursorAt.bel Cl_11.out hb)
  clear Cl_11
  have Y_12 := Lib.hid (RecAt.bel NF_Y.out hb)
  clear NF_Y
  have B_12 := Lib.hid (bel_after B_11.out (Nat.le_refl _) hb)
  clear B_11
  clear hb
  go_wp2_with fail
  refine (BN.out Aa ka u12 SA.out).mono ?_
  rintro e u13 ⟨gb, svb, rfl, hc, hb⟩
  have hcb : gc ≠ gb := by have h1 := Cc_12.out.2.1.lt; have h2 := hc.1; omega
  have hbc := Ne.symm hcb
  have hlb : gl ≠ gb := by have h1 := Cl_12.out.2.1.lt; have h2 := hc.1; omega
  have hbl := Ne.symm hlb
  have hgb : w.heap.size ≤ gb := Nat.le_trans B_12.out.size hc.1
  have Cb := Lib.hid hc; clear hc SA
  have R_13 := Lib.hid (RecAt.bel R_12.out hb)
  clear R_12
  have Cc_13 := Lib.hid (CursorAt.bel Cc_12.out hb)
  clear Cc_12
  have X_13 := Lib.hid (RecAt.bel X_12.out hb)
  clear X_12
  have Cl_13 := Lib.hid (CursorAt.bel Cl_12.out hb)
  clear Cl_12
  have Y_13 := Lib.hid (RecAt.bel Y_12.out hb)
  clear Y_12
  have B_13 := Lib.hid (bel_after B_12.out (Nat.le_refl _) hb)
  clear B_12
  clear hb
  go_wp2_with fail
  refine (BRD.out _ gb svb u13 Cb.out).mono ?_
  rintro e r14 ⟨rfl, hc, ho⟩
  have R_14 := Lib.hid (show RecAt _ _ _ from Whole.only R_13.out ho (Whole.ne R_13.out Cb.out.2.1 (by decide)))
  clear R_13
  have Cc_14 := Lib.hid (CursorAt.apart Cc_13.out ho (hcb) Cb.out.2.1)
  clear Cc_13
  have X_14 := Lib.hid (show RecAt _ _ _ from Whole.only X_13.out ho (Whole.ne X_13.out Cb.out.2.1 (by decide)))
  clear X_13
  have Cl_14 := Lib.hid (CursorAt.apart Cl_13.out ho (hlb) Cb.out.2.1)
  clear Cl_13
  have Y_14 := Lib.hid (show RecAt _ _ _ from Whole.only Y_13.out ho (Whole.ne Y_13.out Cb.out.2.1 (by decide)))
  clear Y_13
  have B_14 : Hid (Below w.heap.size w r14) := Lib.hid (B_13.out.trans (ho.below B_13.out.size (fun k hk => by omega)))
  clear B_13
  have Cb_14 := Lib.hid hc; clear hc ho Cb
  have NW := Lib.hid (Whole.new r14 27 #[.int .i64 0, .int .u16 0, .int .u16 0, .int .u32 0, .int .i64 0, .int .i64 0, .string ⟨#[]⟩, .int .i64 0])
  have NB := Lib.hid (below_setRow ((Below.refl r14.heap.size r14).alloc (Nat.le_refl _) (.cells #[.int .i64 0, .int .u16 0, .int .u16 0, .int .u32 0, .int .i64 0, .int .i64 0, .string ⟨#[]⟩, .int .i64 0] 27)) (g := r14.heap.size) (recC ⟨0, 0, 0, su, pa, si, ⟨#[]⟩, 0⟩) (Nat.le_refl _))
  have NF : Hid (RecAt ((r14.alloc (.cells #[.int .i64 0, .int .u16 0, .int .u16 0, .int .u32 0, .int .i64 0, .int .i64 0, .string ⟨#[]⟩, .int .i64 0] 27)).setRow r14.heap.size (recC ⟨0, 0, 0, su, pa, si, ⟨#[]⟩, 0⟩)) r14.heap.size ⟨0, 0, 0, su, pa, si, ⟨#[]⟩, 0⟩) := Lib.hid (NW.out.setRow (recC ⟨0, 0, 0, su, pa, si, ⟨#[]⟩, 0⟩))
  have hwgU : w.heap.size ≤ r14.heap.size := B_14.out.size
  go_upto_region 14 with (refine wpList_store_row rfl 27 (.tmp 25) (.tmp 66) rfl r14.heap.size (recC ⟨0, 0, 0, su, pa, si, ⟨#[]⟩, 0⟩) rfl rfl 27 #[.int .i64 0, .int .u16 0, .int .u16 0, .int .u32 0, .int .i64 0, .int .i64 0, .string ⟨#[]⟩, .int .i64 0] NW.out (rec_size ⟨0, 0, 0, su, pa, si, ⟨#[]⟩, 0⟩) rfl (rec_one ⟨0, 0, 0, su, pa, si, ⟨#[]⟩, 0⟩) ?_)
  try simp only [Act.put]
  have R_15 := Lib.hid (RecAt.bel R_14.out NB.out)
  clear R_14
  have Cc_15 := Lib.hid (CursorAt.bel Cc_14.out NB.out)
  clear Cc_14
  have X_15 := Lib.hid (RecAt.bel X_14.out NB.out)
  clear X_14
  have Cl_15 := Lib.hid (CursorAt.bel Cl_14.out NB.out)
  clear Cl_14
  have Y_15 := Lib.hid (RecAt.bel Y_14.out NB.out)
  clear Y_14
  have Cb_15 := Lib.hid (CursorAt.bel Cb_14.out NB.out)
  clear Cb_14
  have B_15 := Lib.hid (bel_after B_14.out (Nat.le_refl _) NB.out)
  clear B_14
  obtain ⟨gU, hgU⟩ : ∃ g, r14.heap.size = g := ⟨_, rfl⟩
  rw [hgU] at NF hwgU B_15 R_15 Cc_15 X_15 Cl_15 Y_15 Cb_15 ⊢
  clear NW NB hgU
  generalize (r14.alloc _).setRow gU _ = v15 at *
  have NF_U := NF; clear NF
  obtain ⟨k0, k1, k2, k3, k4, k5, k6, k7⟩ := RecAt.cells R_15.out
  have NW := Lib.hid (Whole.new v15 27 #[.int .i64 0, .int .u16 0, .int .u16 0, .int .u32 0, .int .i64 0, .int .i64 0, .string ⟨#[]⟩, .int .i64 0])
  have NB := Lib.hid (below_setRow ((Below.refl v15.heap.size v15).alloc (Nat.le_refl _) (.cells #[.int .i64 0, .int .u16 0, .int .u16 0, .int .u32 0, .int .i64 0, .int .i64 0, .string ⟨#[]⟩, .int .i64 0] 27)) (g := v15.heap.size) (recC ⟨me, da, cl, su, pa, si, na, of⟩) (Nat.le_refl _))
  have NF : Hid (RecAt ((v15.alloc (.cells #[.int .i64 0, .int .u16 0, .int .u16 0, .int .u32 0, .int .i64 0, .int .i64 0, .string ⟨#[]⟩, .int .i64 0] 27)).setRow v15.heap.size (recC ⟨me, da, cl, su, pa, si, na, of⟩)) v15.heap.size ⟨me, da, cl, su, pa, si, na, of⟩) := Lib.hid (NW.out.setRow (recC ⟨me, da, cl, su, pa, si, na, of⟩))
  have hwgV : w.heap.size ≤ v15.heap.size := B_15.out.size
  go_upto_region 15 with (refine wpList_store_row rfl 27 (.tmp 26) (.tmp 67) rfl v15.heap.size (recC ⟨me, da, cl, su, pa, si, na, of⟩) rfl rfl 27 #[.int .i64 0, .int .u16 0, .int .u16 0, .int .u32 0, .int .i64 0, .int .i64 0, .string ⟨#[]⟩, .int .i64 0] NW.out (rec_size ⟨me, da, cl, su, pa, si, na, of⟩) rfl (rec_one ⟨me, da, cl, su, pa, si, na, of⟩) ?_)
  try simp only [Act.put]
  have nVR : gr ≠ v15.heap.size := by have := Whole.lt R_15.out; omega
  have nVX : gX ≠ v15.heap.size := by have := Whole.lt X_15.out; omega
  have nVY : gY ≠ v15.heap.size := by have := Whole.lt Y_15.out; omega
  have nVU : gU ≠ v15.heap.size := by have := Whole.lt NF_U.out; omega
  have R_16 := Lib.hid (RecAt.bel R_15.out NB.out)
  clear R_15
  have Cc_16 := Lib.hid (CursorAt.bel Cc_15.out NB.out)
  clear Cc_15
  have X_16 := Lib.hid (RecAt.bel X_15.out NB.out)
  clear X_15
  have Cl_16 := Lib.hid (CursorAt.bel Cl_15.out NB.out)
  clear Cl_15
  have Y_16 := Lib.hid (RecAt.bel Y_15.out NB.out)
  clear Y_15
  have Cb_16 := Lib.hid (CursorAt.bel Cb_15.out NB.out)
  clear Cb_15
  have U_16 := Lib.hid (RecAt.bel NF_U.out NB.out)
  clear NF_U
  have B_16 := Lib.hid (bel_after B_15.out (Nat.le_refl _) NB.out)
  clear B_15
  obtain ⟨gV, hgV⟩ : ∃ g, v15.heap.size = g := ⟨_, rfl⟩
  have nR : gr ≠ v15.heap.size := nVR
  have nX : gX ≠ v15.heap.size := nVX
  have nY : gY ≠ v15.heap.size := nVY
  have nU : gU ≠ v15.heap.size := nVU
  rw [hgV] at NF hwgV B_16 R_16 Cc_16 X_16 Cl_16 Y_16 Cb_16 U_16 nR nX nY nU ⊢
  clear NW NB hgV
  generalize (v15.alloc _).setRow gV _ = v16 at *
  have NF_V := NF; clear NF
  clear k0 k1 k2 k3 k4 k5 k6 k7
  clear nVR nVX nVY nVU
  obtain ⟨k0, k1, k2, k3, k4, k5, k6, k7⟩ := RecAt.cells NF_V.out
  have f3 := Whole.frozen NF_V.out 3
  have f4 := Whole.frozen NF_V.out 4
  have f5 := Whole.frozen NF_V.out 5
  have f7 := Whole.frozen NF_V.out 7
  clear CW LW BW CRD LRD BRD CN LN BN
  cases be
  · obtain ⟨rfl, rfl, rfl⟩ := HZ2.out rfl
    clear HZ HZ2
    go_upto_region 18 with fail
    clear k0 k1 k2 k3 k4 k5 k6 k7 f3 f4 f5 f7
    have R_17 := Lib.hid (show RecAt (v16.setCell ⟨gV, 7, none⟩ (.int .i64 0)) _ _ from Whole.far R_16.out (p := ⟨gV, 7, none⟩) nR (.int .i64 0))
    clear R_16
    have Cc_17 := Lib.hid (CursorAt.put Cc_16.out NF_V.out (by decide) (by decide) 7 (.int .i64 0))
    clear Cc_16
    have X_17 := Lib.hid (show RecAt (v16.setCell ⟨gV, 7, none⟩ (.int .i64 0)) _ _ from Whole.far X_16.out (p := ⟨gV, 7, none⟩) nX (.int .i64 0))
    clear X_16
    have Cl_17 := Lib.hid (CursorAt.put Cl_16.out NF_V.out (by decide) (by decide) 7 (.int .i64 0))
    clear Cl_16
    have Y_17 := Lib.hid (show RecAt (v16.setCell ⟨gV, 7, none⟩ (.int .i64 0)) _ _ from Whole.far Y_16.out (p := ⟨gV, 7, none⟩) nY (.int .i64 0))
    clear Y_16
    have Cb_17 := Lib.hid (CursorAt.put Cb_16.out NF_V.out (by decide) (by decide) 7 (.int .i64 0))
    clear Cb_16
    have U_17 := Lib.hid (show RecAt (v16.setCell ⟨gV, 7, none⟩ (.int .i64 0)) _ _ from Whole.far U_16.out (p := ⟨gV, 7, none⟩) nU (.int .i64 0))
    clear U_16
    have V_17 := Lib.hid (Whole.put NF_V.out 7 (.int .i64 0))
    clear NF_V
    have B_17 := Lib.hid (B_16.out.setCell (p := ⟨gV, 7, none⟩) hwgV (.int .i64 0))
    clear B_16
    have VV : Hid (RecAt _ gV ⟨me, da, cl, su', pa', si', na, 0⟩) := Lib.hid V_17.out
    clear V_17
    generalize (v16.setCell ⟨gV, 7, none⟩ (.int .i64 0)) = wz at *
    obtain ⟨k0', k1', k2', k3', k4', k5', k6', k7'⟩ := RecAt.cells R_17.out
    obtain ⟨x0', x1', x2', x3', x4', x5', x6', x7'⟩ := RecAt.cells X_17.out
    obtain ⟨y0', y1', y2', y3', y4', y5', y6', y7'⟩ := RecAt.cells Y_17.out
    obtain ⟨u0', u1', u2', u3', u4', u5', u6', u7'⟩ := RecAt.cells U_17.out
    obtain ⟨v0', v1', v2', v3', v4', v5', v6', v7'⟩ := RecAt.cells VV.out
    clear R_17
    clear X_17
    clear Y_17
    clear U_17
    clear VV
    try simp only [rcd] at k0' k1' k2' k3' k4' k5' k6' k7'
    go_wp2_with fail
    clear k0' k1' k2' k3' k4' k5' k6' k7' x0' x1' x2' x3' x4' x5' x6' x7' y0' y1' y2' y3' y4' y5' y6' y7' u0' u1' u2' u3' u4' u5' u6' u7' v0' v1' v2' v3' v4' v5' v6' v7'
    refine (CE.out _ gc svc wz Cc_17.out).mono ?_
    rintro e q18 ⟨rfl, hc, ho⟩
    have Cl_18 := Lib.hid (CursorAt.apart Cl_17.out ho (hlc) Cc_17.out.2.1)
    clear Cl_17
    have Cb_18 := Lib.hid (CursorAt.apart Cb_17.out ho (hbc) Cc_17.out.2.1)
    clear Cb_17
    have B_18 : Hid (Below w.heap.size w q18) := Lib.hid (B_17.out.trans (ho.below B_17.out.size (fun k hk => by omega)))
    clear B_17
    clear hc ho Cc_17
    go_wp2_with fail
    refine (LE.out _ gl svl q18 Cl_18.out).mono ?_
    rintro e q19 ⟨rfl, hc, ho⟩
    have Cb_19 := Lib.hid (CursorAt.apart Cb_18.out ho (hbl) Cl_18.out.2.1)
    clear Cb_18
    have B_19 : Hid (Below w.heap.size w q19) := Lib.hid (B_18.out.trans (ho.below B_18.out.size (fun k hk => by omega)))
    clear B_18
    clear hc ho Cl_18
    go_wp2_with fail
    refine (BE.out _ gb svb q19 Cb_19.out).mono ?_
    rintro e q20 ⟨rfl, hc, ho⟩
    have B_20 : Hid (Below w.heap.size w q20) := Lib.hid (B_19.out.trans (ho.below B_19.out.size (fun k hk => by omega)))
    clear B_19
    clear hc ho Cb_19
    go_wp2_with fail
    go_ret
    exact ⟨rfl, B_20.out⟩
  · obtain ⟨rfl, rfl, rfl⟩ := HZ.out rfl
    clear HZ HZ2
    go_upto_region 18 with fail
    clear k0 k1 k2 k3 k4 k5 k6 k7 f3 f4 f5 f7
    have R_17 := Lib.hid (show RecAt (v16.setCell ⟨gV, 7, none⟩ (.int .i64 0)) _ _ from Whole.far R_16.out (p := ⟨gV, 7, none⟩) nR (.int .i64 0))
    clear R_16
    have Cc_17 := Lib.hid (CursorAt.put Cc_16.out NF_V.out (by decide) (by decide) 7 (.int .i64 0))
    clear Cc_16
    have X_17 := Lib.hid (show RecAt (v16.setCell ⟨gV, 7, none⟩ (.int .i64 0)) _ _ from Whole.far X_16.out (p := ⟨gV, 7, none⟩) nX (.int .i64 0))
    clear X_16
    have Cl_17 := Lib.hid (CursorAt.put Cl_16.out NF_V.out (by decide) (by decide) 7 (.int .i64 0))
    clear Cl_16
    have Y_17 := Lib.hid (show RecAt (v16.setCell ⟨gV, 7, none⟩ (.int .i64 0)) _ _ from Whole.far Y_16.out (p := ⟨gV, 7, none⟩) nY (.int .i64 0))
    clear Y_16
    have Cb_17 := Lib.hid (CursorAt.put Cb_16.out NF_V.out (by decide) (by decide) 7 (.int .i64 0))
    clear Cb_16
    have U_17 := Lib.hid (show RecAt (v16.setCell ⟨gV, 7, none⟩ (.int .i64 0)) _ _ from Whole.far U_16.out (p := ⟨gV, 7, none⟩) nU (.int .i64 0))
    clear U_16
    have V_17 := Lib.hid (Whole.put NF_V.out 7 (.int .i64 0))
    clear NF_V
    have B_17 := Lib.hid (B_16.out.setCell (p := ⟨gV, 7, none⟩) hwgV (.int .i64 0))
    clear B_16
    have R_18 := Lib.hid (show RecAt ((v16.setCell ⟨gV, 7, none⟩ (.int .i64 0)).setCell ⟨gV, 3, none⟩ (.int .u32 0)) _ _ from Whole.far R_17.out (p := ⟨gV, 3, none⟩) nR (.int .u32 0))
    clear R_17
    have Cc_18 := Lib.hid (CursorAt.put Cc_17.out V_17.out (by decide) (by decide) 3 (.int .u32 0))
    clear Cc_17
    have X_18 := Lib.hid (show RecAt ((v16.setCell ⟨gV, 7, none⟩ (.int .i64 0)).setCell ⟨gV, 3, none⟩ (.int .u32 0)) _ _ from Whole.far X_17.out (p := ⟨gV, 3, none⟩) nX (.int .u32 0))
    clear X_17
    have Cl_18 := Lib.hid (CursorAt.put Cl_17.out V_17.out (by decide) (by decide) 3 (.int .u32 0))
    clear Cl_17
    have Y_18 := Lib.hid (show RecAt ((v16.setCell ⟨gV, 7, none⟩ (.int .i64 0)).setCell ⟨gV, 3, none⟩ (.int .u32 0)) _ _ from Whole.far Y_17.out (p := ⟨gV, 3, none⟩) nY (.int .u32 0))
    clear Y_17
    have Cb_18 := Lib.hid (CursorAt.put Cb_17.out V_17.out (by decide) (by decide) 3 (.int .u32 0))
    clear Cb_17
    have U_18 := Lib.hid (show RecAt ((v16.setCell ⟨gV, 7, none⟩ (.int .i64 0)).setCell ⟨gV, 3, none⟩ (.int .u32 0)) _ _ from Whole.far U_17.out (p := ⟨gV, 3, none⟩) nU (.int .u32 0))
    clear U_17
    have V_18 := Lib.hid (Whole.put V_17.out 3 (.int .u32 0))
    clear V_17
    have B_18 := Lib.hid (B_17.out.setCell (p := ⟨gV, 3, none⟩) hwgV (.int .u32 0))
    clear B_17
    have R_19 := Lib.hid (show RecAt (((v16.setCell ⟨gV, 7, none⟩ (.int .i64 0)).setCell ⟨gV, 3, none⟩ (.int .u32 0)).setCell ⟨gV, 4, none⟩ (.int .i64 0)) _ _ from Whole.far R_18.out (p := ⟨gV, 4, none⟩) nR (.int .i64 0))
    clear R_18
    have Cc_19 := Lib.hid (CursorAt.put Cc_18.out V_18.out (by decide) (by decide) 4 (.int .i64 0))
    clear Cc_18
    have X_19 := Lib.hid (show RecAt (((v16.setCell ⟨gV, 7, none⟩ (.int .i64 0)).setCell ⟨gV, 3, none⟩ (.int .u32 0)).setCell ⟨gV, 4, none⟩ (.int .i64 0)) _ _ from Whole.far X_18.out (p := ⟨gV, 4, none⟩) nX (.int .i64 0))
    clear X_18
    have Cl_19 := Lib.hid (CursorAt.put Cl_18.out V_18.out (by decide) (by decide) 4 (.int .i64 0))
    clear Cl_18
    have Y_19 := Lib.hid (show RecAt (((v16.setCell ⟨gV, 7, none⟩ (.int .i64 0)).setCell ⟨gV, 3, none⟩ (.int .u32 0)).setCell ⟨gV, 4, none⟩ (.int .i64 0)) _ _ from Whole.far Y_18.out (p := ⟨gV, 4, none⟩) nY (.int .i64 0))
    clear Y_18
    have Cb_19 := Lib.hid (CursorAt.put Cb_18.out V_18.out (by decide) (by decide) 4 (.int .i64 0))
    clear Cb_18
    have U_19 := Lib.hid (show RecAt (((v16.setCell ⟨gV, 7, none⟩ (.int .i64 0)).setCell ⟨gV, 3, none⟩ (.int .u32 0)).setCell ⟨gV, 4, none⟩ (.int .i64 0)) _ _ from Whole.far U_18.out (p := ⟨gV, 4, none⟩) nU (.int .i64 0))
    clear U_18
    have V_19 := Lib.hid (Whole.put V_18.out 4 (.int .i64 0))
    clear V_18
    have B_19 := Lib.hid (B_18.out.setCell (p := ⟨gV, 4, none⟩) hwgV (.int .i64 0))
    clear B_18
    have R_20 := Lib.hid (show RecAt ((((v16.setCell ⟨gV, 7, none⟩ (.int .i64 0)).setCell ⟨gV, 3, none⟩ (.int .u32 0)).setCell ⟨gV, 4, none⟩ (.int .i64 0)).setCell ⟨gV, 5, none⟩ (.int .i64 0)) _ _ from Whole.far R_19.out (p := ⟨gV, 5, none⟩) nR (.int .i64 0))
    clear R_19
    have Cc_20 := Lib.hid (CursorAt.put Cc_19.out V_19.out (by decide) (by decide) 5 (.int .i64 0))
    clear Cc_19
    have X_20 := Lib.hid (show RecAt ((((v16.setCell ⟨gV, 7, none⟩ (.int .i64 0)).setCell ⟨gV, 3, none⟩ (.int .u32 0)).setCell ⟨gV, 4, none⟩ (.int .i64 0)).setCell ⟨gV, 5, none⟩ (.int .i64 0)) _ _ from Whole.far X_19.out (p := ⟨gV, 5, none⟩) nX (.int .i64 0))
    clear X_19
    have Cl_20 := Lib.hid (CursorAt.put Cl_19.out V_19.out (by decide) (by decide) 5 (.int .i64 0))
    clear Cl_19
    have Y_20 := Lib.hid (show RecAt ((((v16.setCell ⟨gV, 7, none⟩ (.int .i64 0)).setCell ⟨gV, 3, none⟩ (.int .u32 0)).setCell ⟨gV, 4, none⟩ (.int .i64 0)).setCell ⟨gV, 5, none⟩ (.int .i64 0)) _ _ from Whole.far Y_19.out (p := ⟨gV, 5, none⟩) nY (.int .i64 0))
    clear Y_19
    have Cb_20 := Lib.hid (CursorAt.put Cb_19.out V_19.out (by decide) (by decide) 5 (.int .i64 0))
    clear Cb_19
    have U_20 := Lib.hid (show RecAt ((((v16.setCell ⟨gV, 7, none⟩ (.int .i64 0)).setCell ⟨gV, 3, none⟩ (.int .u32 0)).setCell ⟨gV, 4, none⟩ (.int .i64 0)).setCell ⟨gV, 5, none⟩ (.int .i64 0)) _ _ from Whole.far U_19.out (p := ⟨gV, 5, none⟩) nU (.int .i64 0))
    clear U_19
    have V_20 := Lib.hid (Whole.put V_19.out 5 (.int .i64 0))
    clear V_19
    have B_20 := Lib.hid (B_19.out.setCell (p := ⟨gV, 5, none⟩) hwgV (.int .i64 0))
    clear B_19
    have VV : Hid (RecAt _ gV ⟨me, da, cl, 0, ((0 : Nat) : Int), ((0 : Nat) : Int), na, 0⟩) := Lib.hid V_20.out
    clear V_20
    generalize ((((v16.setCell ⟨gV, 7, none⟩ (.int .i64 0)).setCell ⟨gV, 3, none⟩ (.int .u32 0)).setCell ⟨gV, 4, none⟩ (.int .i64 0)).setCell ⟨gV, 5, none⟩ (.int .i64 0)) = wz at *
    obtain ⟨k0', k1', k2', k3', k4', k5', k6', k7'⟩ := RecAt.cells R_20.out
    obtain ⟨x0', x1', x2', x3', x4', x5', x6', x7'⟩ := RecAt.cells X_20.out
    obtain ⟨y0', y1', y2', y3', y4', y5', y6', y7'⟩ := RecAt.cells Y_20.out
    obtain ⟨u0', u1', u2', u3', u4', u5', u6', u7'⟩ := RecAt.cells U_20.out
    obtain ⟨v0', v1', v2', v3', v4', v5', v6', v7'⟩ := RecAt.cells VV.out
    clear R_20
    clear X_20
    clear Y_20
    clear U_20
    clear VV
    try simp only [rcd] at k0' k1' k2' k3' k4' k5' k6' k7'
    go_wp2_with fail
    clear k0' k1' k2' k3' k4' k5' k6' k7' x0' x1' x2' x3' x4' x5' x6' x7' y0' y1' y2' y3' y4' y5' y6' y7' u0' u1' u2' u3' u4' u5' u6' u7' v0' v1' v2' v3' v4' v5' v6' v7'
    refine (CE.out _ gc svc wz Cc_20.out).mono ?_
    rintro e q21 ⟨rfl, hc, ho⟩
    have Cl_21 := Lib.hid (CursorAt.apart Cl_20.out ho (hlc) Cc_20.out.2.1)
    clear Cl_20
    have Cb_21 := Lib.hid (CursorAt.apart Cb_20.out ho (hbc) Cc_20.out.2.1)
    clear Cb_20
    have B_21 : Hid (Below w.heap.size w q21) := Lib.hid (B_20.out.trans (ho.below B_20.out.size (fun k hk => by omega)))
    clear B_20
    clear hc ho Cc_20
    go_wp2_with fail
    refine (LE.out _ gl svl q21 Cl_21.out).mono ?_
    rintro e q22 ⟨rfl, hc, ho⟩
    have Cb_22 := Lib.hid (CursorAt.apart Cb_21.out ho (hbl) Cl_21.out.2.1)
    clear Cb_21
    have B_22 : Hid (Below w.heap.size w q22) := Lib.hid (B_21.out.trans (ho.below B_21.out.size (fun k hk => by omega)))
    clear B_21
    clear hc ho Cl_21
    go_wp2_with fail
    refine (BE.out _ gb svb q22 Cb_22.out).mono ?_
    rintro e q23 ⟨rfl, hc, ho⟩
    have B_23 : Hid (Below w.heap.size w q23) := Lib.hid (B_22.out.trans (ho.below B_22.out.size (fun k hk => by omega)))
    clear B_22
    clear hc ho Cb_22
    go_wp2_with fail
    go_ret
    exact ⟨rfl, B_23.out⟩

theorem u32_wf {x : Int} (h : (Lit.int .u32 x).wf = true) : ∃ m : Nat, m < 4294967296 ∧ x = m := by
  simp [Lit.wf, IntKind.min, IntKind.max, IntKind.signed, IntKind.bits] at h
  exact ⟨x.toNat, by omega, by omega⟩
theorem back_law (na : ByteArray) (da cl : Nat) (hda : da < 65536) (hcl : cl < 65536) (su pa si of : Int) (hsu : (Lit.int .u32 su).wf = true) (hpa : (Lit.int .u32 pa).wf = true) (hsi : (Lit.int .u32 si).wf = true) (hof : (Lit.int .u32 of).wf = true) (mt be : Bool) (w : World) :
    Calls Try.prog 5 #[.string na, .agg #[.int .u16 da, .int .u16 cl], .int .u32 su, .int .u32 pa, .int .u32 si, .int .u32 of, .bool mt, .bool be] w (LawPost w) := by
  obtain ⟨su, h1, rfl⟩ := u32_wf hsu
  obtain ⟨pa, h2, rfl⟩ := u32_wf hpa
  obtain ⟨si, h3, rfl⟩ := u32_wf hsi
  obtain ⟨of, h4, rfl⟩ := u32_wf hof
  by_cases h : na.size ≤ 300
  · exact back_short na da cl su pa si of hda hcl h1 h2 h3 h4 mt be h w
  · exact back_long na da cl su pa si of mt be (by omega) w
end Go.Proofs.Ytplilajgncfieaa
