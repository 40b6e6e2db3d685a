/-
  The document's readers of records: ReadLocal, ReadCentral. Conditions: the document's cursor stands as told, over at most a million bytes.
-/
import Derived.Test.YtplilajgncfieaaRS
namespace Go.Proofs.Ytplilajgncfieaa
open Go.RowKit
set_option maxRecDepth 100000

set_option linter.unusedSimpArgs false in
set_option maxHeartbeats 8000000 in
theorem rlocal_is (g B : Nat) (A : Option Addr) (c : Nat) (bs : List Nat) (a : Nat) (err : Int) {m v x0 x1 : Int} {x2 x3 x4 : Nat} {x5 x6 x7 x8 : Int} {a' : Nat} {err' : Int} (hL : LocIs bs a err m v x0 x1 x2 x3 x4 x5 x6 x7 x8 a' err') (w : World) (h : RCur w g A c bs a err) (hs : Seen w B 1 A bs.length c (bv bs)) (hB : B ≤ g) (hb : bs.length ≤ 1000000) (hcm : c ≤ 9223372036854775807) (ha : a ≤ bs.length) (h256 : ∀ x ∈ bs, x < 256) :
    Calls Try.prog 17 #[.pointer (some ⟨g, 0, none⟩)] w fun e w' => e = .returned (recRes (nxt bs a' (errP (m == 67324752) (locR v x0 x1 x4 x5 x6 x8) err') x7 true) x0 x1 x2 x3 x4 x5 x6 0) ∧ RRes w g A c bs (nxt bs a' (errP (m == 67324752) (locR v x0 x1 x4 x5 x6 x8) err') x7 true).2 w' := by
  have hL1 := hL.1
  obtain ⟨_, r2, r3, r4, r7, r7', pa⟩ := hL
  have v2 := u16_wrap r2
  have v3 := u16_wrap r3
  have v4 := u32_wrap r4
  have RN := Lib.hid (fun W An (hW : RCur W g A c bs a err) hS hN hg => rnumbers_any g B A c bs a err (4 :: 2 :: szS) (by unfold Sz; decide) 11 rfl (by omega) (by omega) An 11 W.heap.size 67324752 W hW hS hB hb hcm ha h256 hN hg)
  have hq : rdz bs (4 :: 2 :: szS) a err = ([m, v, x0, x1, (x2 : Int), (x3 : Int), (x4 : Int), x5, x6, x7, x8], a', err') := hL1
  rw [hq] at RN
  simp only [List.getD_cons_zero] at RN
  obtain ⟨rr, hrr⟩ : ∃ r, locR v x0 x1 x4 x5 x6 x8 = r := ⟨_, rfl⟩
  obtain ⟨mm, hmm⟩ : ∃ r, (m == (67324752 : Int)) = r := ⟨_, rfl⟩
  have hmm' : (m == ((67324752 : Nat) : Int)) = mm := hmm
  rw [hmm'] at RN
  rw [hrr, hmm]
  obtain ⟨e2, he2⟩ : ∃ e, magE mm err' = e := ⟨_, rfl⟩
  rw [he2] at RN
  obtain ⟨e3, he3⟩ : ∃ e, errP mm rr err' = e := ⟨_, rfl⟩
  rw [he3]
  have hw3 : (if rr = true then e2 else failed e2 2) = e3 := by rw [← he3, ← he2]; unfold errP magE; cases rr <;> rfl
  have WT := Lib.hid (fun W (hW : RCur W g A c bs a' e2) => want_any g A c bs a' e2 rr W hW)
  rw [hw3] at WT
  have TK := Lib.hid (fun W (hW : RCur W g A c bs a' e3) hS => rtake_any g B A c bs a' e3 x7 W hW hS hB hb hcm pa)
  rw [decide_eq_true r7] at TK
  obtain ⟨q, hqq⟩ : ∃ q, nxt bs a' e3 x7 true = q := ⟨_, rfl⟩
  rw [hqq] at TK ⊢
  have HC := Lib.hid h; have HS := Lib.hid hs
  have hgl := Whole.lt h
  unfold locR at hrr
  have M0 := Lib.hid (fun W => method_any x0 W)
  have M1 := Lib.hid (fun W => method_any x1 W)
  unfold rightS nothS at hrr
  obtain ⟨t1, ht1⟩ : ∃ t, (v == (20 : Int)) = t := ⟨_, rfl⟩
  obtain ⟨b2, hb2⟩ : ∃ t, (x0 == (0 : Int) || x0 == 8) = t := ⟨_, rfl⟩
  obtain ⟨b3, hb3⟩ : ∃ t, (x1 == (0 : Int) || x1 == 8) = t := ⟨_, rfl⟩
  obtain ⟨t4, ht4⟩ : ∃ t, (x8 == (0 : Int)) = t := ⟨_, rfl⟩
  obtain ⟨t5, ht5⟩ : ∃ t, (x0 == (0 : Int)) = t := ⟨_, rfl⟩
  obtain ⟨t6, ht6⟩ : ∃ t, ((x4 : Int) == (0 : Int)) = t := ⟨_, rfl⟩
  obtain ⟨t7, ht7⟩ : ∃ t, (x5 == (0 : Int)) = t := ⟨_, rfl⟩
  obtain ⟨t8, ht8⟩ : ∃ t, (x6 == (0 : Int)) = t := ⟨_, rfl⟩
  rw [hb2] at hrr M0
  rw [hb3] at hrr M1
  rw [ht1, ht4, ht5, ht6, ht7, ht8] at hrr
  clear hb2 hb3
  clear hq hL1 r2 r3 r4 r7 r7' pa hmm hmm' he2 he3 hw3 hqq h hs hb hcm ha h256
  obtain ⟨l, a4, e4⟩ := q
  obtain ⟨RV, hRV⟩ : ∃ v, recRes (l, a4, e4) x0 x1 x2 x3 x4 x5 x6 0 = v := ⟨_, rfl⟩
  rw [hRV]
  have HRV := Lib.hid hRV
  clear hRV
  go_enter Try.func17, Try.ntmps17
  go_wp2_with fail
  have B0 := Lib.hid ((Below.refl w.heap.size w).alloc (Nat.le_refl _) (.cells (recC rec0) 27))
  have C0 := Lib.hid (HC.out.bel B0.out)
  have S0 := Lib.hid (HS.out.below (B0.out.mono (by omega : B ≤ w.heap.size)))
  have Z0 := Lib.hid (Whole.new w 27 (recC rec0))
  have O0 := Lib.hid (Only.of_below B0.out (fun i => i = g))
  simp only [recC, rec0] at C0 Z0 O0 S0
  have hwz : (w.alloc (.cells (recC rec0) 27)).heap.size = w.heap.size + 1 := by simp
  simp only [recC, rec0] at hwz
  generalize w.alloc _ = w0 at C0 Z0 O0 S0 hwz ⊢
  obtain ⟨gz, hgz⟩ : ∃ gz, w.heap.size = gz := ⟨_, rfl⟩
  rw [hgz] at Z0 hwz ⊢
  have hzg : gz ≠ g := by omega
  have hle : w.heap.size ≤ gz := by omega
  rw [← hwz]
  have NB := Lib.hid ((Below.refl w0.heap.size w0).alloc (Nat.le_refl _) (.cells (iv [4, 2, 2, 2, 2, 2, 4, 4, 4, 2, 2]).toArray 3))
  refine (RN.out (w0.alloc (.cells (iv [4, 2, 2, 2, 2, 2, 4, 4, 4, 2, 2]).toArray 3)) _ (C0.out.bel NB.out) (seen_alloc S0.out (by omega) _) (lit_ints w0 _ [4, 2, 2, 2, 2, 2, 4, 4, 4, 2, 2] rfl 11 rfl _ rfl) (fun b o hbo => by injection hbo with hbo; injection hbo with h1 _; omega)).mono ?_
  rintro e w1 ⟨v9, rfl, hv9, hc1, ho1⟩
  obtain ⟨gl, cl, rfl, hcl, _⟩ := own_pos hv9 (by omega)
  have hglo := (own_whole hv9 (k := gl) rfl).1
  have hao : (w0.alloc (.cells (iv [4, 2, 2, 2, 2, 2, 4, 4, 4, 2, 2]).toArray 3)).heap.size = w0.heap.size + 1 := by simp
  have K1 := Lib.hid (LRow.of_own hv9)
  have C1 := Lib.hid hc1
  have O1 := Lib.hid ((O0.out.alloc _).trans ho1)
  have Z1 := Lib.hid ((Whole.bel Z0.out NB.out).only ho1 hzg)
  have S1 := Lib.hid ((seen_alloc S0.out (by omega) (.cells (iv [4, 2, 2, 2, 2, 2, 4, 4, 4, 2, 2]).toArray 3)).only ho1 (by omega) (fun k hk e => by omega))
  have hlg : gl ≠ g := by omega
  have hlz : gl ≠ gz := by omega
  clear hv9 hc1 ho1 hao NB C0 Z0 O0 S0 RN hwz hglo B0
  simp only at C1
  have k0 := K1.out.2 0 _ rfl
  have k1 := K1.out.2 1 _ rfl
  have k2 := K1.out.2 2 _ rfl
  have k3 := K1.out.2 3 _ rfl
  have k4 := K1.out.2 4 _ rfl
  have k5 := K1.out.2 5 _ rfl
  have k6 := K1.out.2 6 _ rfl
  have k7 := K1.out.2 7 _ rfl
  have k8 := K1.out.2 8 _ rfl
  have k9 := K1.out.2 9 _ rfl
  have k10 := K1.out.2 10 _ rfl
  go_upto_region 2 with fail
  go_cut [9] (fun s9 wx => s9 = .pointer (some ⟨g, 0, none⟩) ∧ Hid (RCur wx g A c bs a' e3 ∧ Only (fun k => k = g) w1 wx))
  case first =>
    cases t1
    · obtain rfl : false = rr := by simpa using hrr
      go_wp2_with (first | (go_at_call 39; refine (M0.out _).mono ?_; rintro e _ ⟨rfl, rfl⟩) | (go_at_call 39; refine (M1.out _).mono ?_; rintro e _ ⟨rfl, rfl⟩) | (go_at_call 38; refine (WT.out w1 C1.out).mono ?_; rintro e w2 ⟨rfl, hc2, ho2⟩; have HC2 := Lib.hid hc2; have HO2 := Lib.hid ho2; clear hc2 ho2))
      go_meet
      case rel => exact ⟨rfl, Lib.hid ⟨HC2.out, HO2.out⟩⟩
    · cases b2
      · obtain rfl : false = rr := by simpa using hrr
        go_wp2_with (first | (go_at_call 39; refine (M0.out _).mono ?_; rintro e _ ⟨rfl, rfl⟩) | (go_at_call 39; refine (M1.out _).mono ?_; rintro e _ ⟨rfl, rfl⟩) | (go_at_call 38; refine (WT.out w1 C1.out).mono ?_; rintro e w2 ⟨rfl, hc2, ho2⟩; have HC2 := Lib.hid hc2; have HO2 := Lib.hid ho2; clear hc2 ho2))
        go_meet
        case rel => exact ⟨rfl, Lib.hid ⟨HC2.out, HO2.out⟩⟩
      · cases b3
        · obtain rfl : false = rr := by simpa using hrr
          go_wp2_with (first | (go_at_call 39; refine (M0.out _).mono ?_; rintro e _ ⟨rfl, rfl⟩) | (go_at_call 39; refine (M1.out _).mono ?_; rintro e _ ⟨rfl, rfl⟩) | (go_at_call 38; refine (WT.out w1 C1.out).mono ?_; rintro e w2 ⟨rfl, hc2, ho2⟩; have HC2 := Lib.hid hc2; have HO2 := Lib.hid ho2; clear hc2 ho2))
          go_meet
          case rel => exact ⟨rfl, Lib.hid ⟨HC2.out, HO2.out⟩⟩
        · cases t4
          · obtain rfl : false = rr := by simpa using hrr
            go_wp2_with (first | (go_at_call 39; refine (M0.out _).mono ?_; rintro e _ ⟨rfl, rfl⟩) | (go_at_call 39; refine (M1.out _).mono ?_; rintro e _ ⟨rfl, rfl⟩) | (go_at_call 38; refine (WT.out w1 C1.out).mono ?_; rintro e w2 ⟨rfl, hc2, ho2⟩; have HC2 := Lib.hid hc2; have HO2 := Lib.hid ho2; clear hc2 ho2))
            go_meet
            case rel => exact ⟨rfl, Lib.hid ⟨HC2.out, HO2.out⟩⟩
          · cases t5
            · cases t6
              · obtain rfl : false = rr := by simpa using hrr
                go_wp2_with (first | (go_at_call 39; refine (M0.out _).mono ?_; rintro e _ ⟨rfl, rfl⟩) | (go_at_call 39; refine (M1.out _).mono ?_; rintro e _ ⟨rfl, rfl⟩) | (go_at_call 38; refine (WT.out w1 C1.out).mono ?_; rintro e w2 ⟨rfl, hc2, ho2⟩; have HC2 := Lib.hid hc2; have HO2 := Lib.hid ho2; clear hc2 ho2))
                go_meet
                case rel => exact ⟨rfl, Lib.hid ⟨HC2.out, HO2.out⟩⟩
              · cases t7
                · obtain rfl : false = rr := by simpa using hrr
                  go_wp2_with (first | (go_at_call 39; refine (M0.out _).mono ?_; rintro e _ ⟨rfl, rfl⟩) | (go_at_call 39; refine (M1.out _).mono ?_; rintro e _ ⟨rfl, rfl⟩) | (go_at_call 38; refine (WT.out w1 C1.out).mono ?_; rintro e w2 ⟨rfl, hc2, ho2⟩; have HC2 := Lib.hid hc2; have HO2 := Lib.hid ho2; clear hc2 ho2))
                  go_meet
                  case rel => exact ⟨rfl, Lib.hid ⟨HC2.out, HO2.out⟩⟩
                · cases t8
                  · obtain rfl : false = rr := by simpa using hrr
                    go_wp2_with (first | (go_at_call 39; refine (M0.out _).mono ?_; rintro e _ ⟨rfl, rfl⟩) | (go_at_call 39; refine (M1.out _).mono ?_; rintro e _ ⟨rfl, rfl⟩) | (go_at_call 38; refine (WT.out w1 C1.out).mono ?_; rintro e w2 ⟨rfl, hc2, ho2⟩; have HC2 := Lib.hid hc2; have HO2 := Lib.hid ho2; clear hc2 ho2))
                    go_meet
                    case rel => exact ⟨rfl, Lib.hid ⟨HC2.out, HO2.out⟩⟩
                  · obtain rfl : true = rr := by simpa using hrr
                    go_wp2_with (first | (go_at_call 39; refine (M0.out _).mono ?_; rintro e _ ⟨rfl, rfl⟩) | (go_at_call 39; refine (M1.out _).mono ?_; rintro e _ ⟨rfl, rfl⟩) | (go_at_call 38; refine (WT.out w1 C1.out).mono ?_; rintro e w2 ⟨rfl, hc2, ho2⟩; have HC2 := Lib.hid hc2; have HO2 := Lib.hid ho2; clear hc2 ho2))
                    go_meet
                    case rel => exact ⟨rfl, Lib.hid ⟨HC2.out, HO2.out⟩⟩
            · obtain rfl : true = rr := by simpa using hrr
              go_wp2_with (first | (go_at_call 39; refine (M0.out _).mono ?_; rintro e _ ⟨rfl, rfl⟩) | (go_at_call 39; refine (M1.out _).mono ?_; rintro e _ ⟨rfl, rfl⟩) | (go_at_call 38; refine (WT.out w1 C1.out).mono ?_; rintro e w2 ⟨rfl, hc2, ho2⟩; have HC2 := Lib.hid hc2; have HO2 := Lib.hid ho2; clear hc2 ho2))
              go_meet
              case rel => exact ⟨rfl, Lib.hid ⟨HC2.out, HO2.out⟩⟩
  case rest =>
    obtain ⟨rfl, hx⟩ := hcut
    have C2 := Lib.hid hx.out.1
    have K2 := Lib.hid (K1.out.only hx.out.2 hlg); have Z2 := Lib.hid (Z1.out.only hx.out.2 hzg); have S2 := Lib.hid (S1.out.only hx.out.2 (by have := Z1.out.lt; omega) (fun k hk e => by omega)); have O2 := Lib.hid (O1.out.trans hx.out.2)
    clear hx C1 K1 Z1 S1 O1 WT k0 k1 k2 k3 k4 k5 k6 k7 k8 k9 k10
    have kx := K2.out.2 9 _ rfl
    go_wp2_with fail
    refine (TK.out wc C2.out S2.out).mono ?_
    rintro e w3 ⟨v3', rfl, hv3, hc3, ho3⟩
    obtain ⟨Av, cv, rfl, _⟩ := own_form hv3
    have C3 := Lib.hid hc3; have K3 := Lib.hid (K2.out.only ho3 hlg); have Z3 := Lib.hid (Z2.out.only ho3 hzg); have O3 := Lib.hid (O2.out.trans ho3); have HV := Lib.hid hv3
    clear hv3 hc3 ho3 C2 K2 Z2 S2 O2 TK kx
    simp only at C3 HV
    have e2' := C3.out.c2
    by_cases he : e4 = 0
    · subst he
      have hRV := HRV.out
      have hR : recRes (l, a4, 0) x0 x1 x2 x3 x4 x5 x6 0 = .tuple #[.agg (recC ⟨x1, x3, x2, x4, x5, x6, strOf l, 0⟩), .bool (x0 == 8)] := by simp [recRes]
      rw [hR] at hRV
      subst hRV
      clear hR HRV
      go_upto_region 6 with fail
      clear e2'
      refine wp_region_held_drew (S := (fun W => Only (fun i => i = gz) w3 W)) (by kernel_rfl) (Only.refl _ _).drew (fun hHeld => ?_)
      have hHeld0 := hHeld
      generalize hwd : w3.drew = wd at *
      have ZD : Hid (Whole wd gz 27 (recC rec0)) := by rw [← hwd]; exact Lib.hid Z3.out.drew
      have CD : Hid (RCur wd g A c bs a4 0) := by rw [← hwd]; exact Lib.hid (C3.out.bel (Below.refl _ _).drew)
      have OD : Hid (Only (fun k => k = g) w wd) := by rw [← hwd]; exact Lib.hid O3.out.drew
      clear hwd hHeld0
      refine wpAnyH_take (i := 0) (oi := ⟨some 68, _, _, _, _, _⟩) (v := ?v0_1) rfl (by kernel_rfl) (by kernel_rfl) (by kernel_rfl) (fun _ _ _ h => h) (Or.inl ⟨by rfl, ?hy0_1⟩) (by assumption) ?rest0_1
      case hy0_1 => intro W hSW; go_simp; try rfl
      try simp only [Act.put, List.setIfInBounds_toArray, List.set_cons_zero, List.set_cons_succ]
      refine wpAnyH_take (i := 1) (oi := ⟨some 69, _, _, _, _, _⟩) (v := ?v1_2) rfl (by kernel_rfl) (by kernel_rfl) (by kernel_rfl) (fun _ _ _ h => h) (Or.inl ⟨by rfl, ?hy1_2⟩) (by assumption) ?rest1_2
      case hy1_2 => intro W hSW; go_simp; try rfl
      try simp only [Act.put, List.setIfInBounds_toArray, List.set_cons_zero, List.set_cons_succ]
      refine wpAnyH_take (i := 2) (oi := ⟨some 70, _, _, _, _, _⟩) (v := ?v2_3) rfl (by kernel_rfl) (by kernel_rfl) (by kernel_rfl) (fun _ _ _ h => h) (Or.inl ⟨by rfl, ?hy2_3⟩) (by assumption) ?rest2_3
      case hy2_3 => intro W hSW; have k := (LRow.only K3.out hSW hlz).2 3 _ rfl; go_simp; try rfl
      try simp only [Act.put, List.setIfInBounds_toArray, List.set_cons_zero, List.set_cons_succ]
      refine wpAnyH_take (i := 3) (oi := ⟨some 71, _, _, _, _, _⟩) (v := ?v3_4) rfl (by kernel_rfl) (by kernel_rfl) (by kernel_rfl) (fun _ _ _ h => h) (Or.inl ⟨by rfl, ?hy3_4⟩) (by assumption) ?rest3_4
      case hy3_4 => intro W hSW; go_simp; try rfl
      try simp only [Act.put, List.setIfInBounds_toArray, List.set_cons_zero, List.set_cons_succ]
      refine wpAnyH_take (i := 4) (oi := ⟨some 72, _, _, _, _, _⟩) (v := ?v4_5) rfl (by kernel_rfl) (by kernel_rfl) (by kernel_rfl) (fun _ _ _ h => h) (Or.inl ⟨by rfl, ?hy4_5⟩) (by assumption) ?rest4_5
      case hy4_5 => intro W hSW; go_simp; try rfl
      try simp only [Act.put, List.setIfInBounds_toArray, List.set_cons_zero, List.set_cons_succ]
      refine wpAnyH_take (i := 5) (oi := ⟨some 73, _, _, _, _, _⟩) (v := ?v5_6) rfl (by kernel_rfl) (by kernel_rfl) (by kernel_rfl) (fun _ _ _ h => h) (Or.inl ⟨by rfl, ?hy5_6⟩) (by assumption) ?rest5_6
      case hy5_6 => intro W hSW; have k := (LRow.only K3.out hSW hlz).2 4 _ rfl; go_simp; try rfl
      try simp only [Act.put, List.setIfInBounds_toArray, List.set_cons_zero, List.set_cons_succ]
      refine wpAnyH_take (i := 6) (oi := ⟨some 74, _, _, _, _, _⟩) (v := ?v6_7) rfl (by kernel_rfl) (by kernel_rfl) (by kernel_rfl) (fun _ _ _ h => h) (Or.inl ⟨by rfl, ?hy6_7⟩) (by assumption) ?rest6_7
      case hy6_7 => intro W hSW; go_simp; try rfl
      try simp only [Act.put, List.setIfInBounds_toArray, List.set_cons_zero, List.set_cons_succ]
      refine wpAnyH_take (i := 7) (oi := ⟨some 75, _, _, _, _, _⟩) (v := ?v7_8) rfl (by kernel_rfl) (by kernel_rfl) (by kernel_rfl) (fun _ _ _ h => h) (Or.inl ⟨by rfl, ?hy7_8⟩) (by assumption) ?rest7_8
      case hy7_8 => intro W hSW; go_simp; try rfl
      try simp only [Act.put, List.setIfInBounds_toArray, List.set_cons_zero, List.set_cons_succ]
      refine wpAnyH_take (i := 8) (oi := ⟨some 76, _, _, _, _, _⟩) (v := ?v8_9) rfl (by kernel_rfl) (by kernel_rfl) (by kernel_rfl) (fun _ _ _ h => h) (Or.inl ⟨by rfl, ?hy8_9⟩) (by assumption) ?rest8_9
      case hy8_9 => intro W hSW; go_simp; try rfl
      try simp only [Act.put, List.setIfInBounds_toArray, List.set_cons_zero, List.set_cons_succ]
      refine wpAnyH_take (i := 9) (oi := ⟨some 77, _, _, _, _, _⟩) (v := ?v9_10) rfl (by kernel_rfl) (by kernel_rfl) (by kernel_rfl) (fun _ _ _ h => h) (Or.inl ⟨by rfl, ?hy9_10⟩) (by assumption) ?rest9_10
      case hy9_10 => intro W hSW; have k := (LRow.only K3.out hSW hlz).2 5 _ rfl; go_simp; try rfl
      try simp only [Act.put, List.setIfInBounds_toArray, List.set_cons_zero, List.set_cons_succ]
      refine wpAnyH_take (i := 10) (oi := ⟨some 78, _, _, _, _, _⟩) (v := ?v10_11) rfl (by kernel_rfl) (by kernel_rfl) (by kernel_rfl) (fun _ _ _ h => h) (Or.inl ⟨by rfl, ?hy10_11⟩) (by assumption) ?rest10_11
      case hy10_11 => intro W hSW; go_simp; try rfl
      try simp only [Act.put, List.setIfInBounds_toArray, List.set_cons_zero, List.set_cons_succ]
      refine wpAnyH_take (i := 11) (oi := ⟨some 79, _, _, _, _, _⟩) (v := ?v11_12) rfl (by kernel_rfl) (by kernel_rfl) (by kernel_rfl) (fun _ _ _ h => h) (Or.inl ⟨by rfl, ?hy11_12⟩) (by assumption) ?rest11_12
      case hy11_12 => intro W hSW; go_simp; try rfl
      try simp only [Act.put, List.setIfInBounds_toArray, List.set_cons_zero, List.set_cons_succ]
      refine wpAnyH_take (i := 12) (oi := ⟨some 80, _, _, _, _, _⟩) (v := ?v12_13) rfl (by kernel_rfl) (by kernel_rfl) (by kernel_rfl) (fun _ _ _ h => h) (Or.inl ⟨by rfl, ?hy12_13⟩) (by assumption) ?rest12_13
      case hy12_13 => intro W hSW; go_simp; try rfl
      try simp only [Act.put, List.setIfInBounds_toArray, List.set_cons_zero, List.set_cons_succ]
      refine wpAnyH_take (i := 13) (oi := ⟨some 81, _, _, _, _, _⟩) (v := ?v13_14) rfl (by kernel_rfl) (by kernel_rfl) (by kernel_rfl) (fun _ _ _ h => h) (Or.inl ⟨by rfl, ?hy13_14⟩) (by assumption) ?rest13_14
      case hy13_14 => intro W hSW; go_simp; try rfl
      try simp only [Act.put, List.setIfInBounds_toArray, List.set_cons_zero, List.set_cons_succ]
      refine wpAnyH_take (i := 14) (oi := ⟨some 82, _, _, _, _, _⟩) (v := ?v14_15) rfl (by kernel_rfl) (by kernel_rfl) (by kernel_rfl) (fun _ _ _ h => h) (Or.inl ⟨by rfl, ?hy14_15⟩) (by assumption) ?rest14_15
      case hy14_15 => intro W hSW; have k := (LRow.only K3.out hSW hlz).2 6 _ rfl; go_simp; try rfl
      try simp only [Act.put, List.setIfInBounds_toArray, List.set_cons_zero, List.set_cons_succ]
      refine wpAnyH_take (i := 15) (oi := ⟨some 83, _, _, _, _, _⟩) (v := ?v15_16) rfl (by kernel_rfl) (by kernel_rfl) (by kernel_rfl) (fun _ _ _ h => h) (Or.inl ⟨by rfl, ?hy15_16⟩) (by assumption) ?rest15_16
      case hy15_16 => intro W hSW; go_simp; try rfl
      try simp only [Act.put, List.setIfInBounds_toArray, List.set_cons_zero, List.set_cons_succ]
      refine wpAnyH_take (i := 16) (oi := ⟨some 84, _, _, _, _, _⟩) (v := ?v16_17) rfl (by kernel_rfl) (by kernel_rfl) (by kernel_rfl) (fun _ _ _ h => h) (Or.inl ⟨by rfl, ?hy16_17⟩) (by assumption) ?rest16_17
      case hy16_17 => intro W hSW; go_simp; try rfl
      try simp only [Act.put, List.setIfInBounds_toArray, List.set_cons_zero, List.set_cons_succ]
      refine wpAnyH_take (i := 17) (oi := ⟨some 85, _, _, _, _, _⟩) (v := ?v17_18) rfl (by kernel_rfl) (by kernel_rfl) (by kernel_rfl) (fun _ _ _ h => h) (Or.inl ⟨by rfl, ?hy17_18⟩) (by assumption) ?rest17_18
      case hy17_18 => intro W hSW; go_simp; try rfl
      try simp only [Act.put, List.setIfInBounds_toArray, List.set_cons_zero, List.set_cons_succ]
      refine wpAnyH_take (i := 18) (oi := ⟨some 86, _, _, _, _, _⟩) (v := ?v18_19) rfl (by kernel_rfl) (by kernel_rfl) (by kernel_rfl) (fun _ _ _ h => h) (Or.inl ⟨by rfl, ?hy18_19⟩) (by assumption) ?rest18_19
      case hy18_19 => intro W hSW; have k := (LRow.only K3.out hSW hlz).2 7 _ rfl; go_simp; try rfl
      try simp only [Act.put, List.setIfInBounds_toArray, List.set_cons_zero, List.set_cons_succ]
      refine wpAnyH_take (i := 19) (oi := ⟨some 87, _, _, _, _, _⟩) (v := ?v19_20) rfl (by kernel_rfl) (by kernel_rfl) (by kernel_rfl) (fun _ _ _ h => h) (Or.inl ⟨by rfl, ?hy19_20⟩) (by assumption) ?rest19_20
      case hy19_20 => intro W hSW; go_simp; try rfl
      try simp only [Act.put, List.setIfInBounds_toArray, List.set_cons_zero, List.set_cons_succ]
      refine wpAnyH_take (i := 20) (oi := ⟨some 88, _, _, _, _, _⟩) (v := ?v20_21) rfl (by kernel_rfl) (by kernel_rfl) (by kernel_rfl) (fun _ _ _ h => h) (Or.inl ⟨by rfl, ?hy20_21⟩) (by assumption) ?rest20_21
      case hy20_21 => intro W hSW; go_simp; try rfl
      try simp only [Act.put, List.setIfInBounds_toArray, List.set_cons_zero, List.set_cons_succ]
      refine wpAnyH_take (i := 21) (oi := ⟨some 89, _, _, _, _, _⟩) (v := ?v21_22) rfl (by kernel_rfl) (by kernel_rfl) (by kernel_rfl) (fun _ _ _ h => h) (Or.inl ⟨by rfl, ?hy21_22⟩) (by assumption) ?rest21_22
      case hy21_22 => intro W hSW; have k := (LRow.only K3.out hSW hlz).2 8 _ rfl; go_simp; try rfl
      try simp only [Act.put, List.setIfInBounds_toArray, List.set_cons_zero, List.set_cons_succ]
      refine wpAnyH_take (i := 22) (oi := ⟨some 90, _, _, _, _, _⟩) (v := ?v22_23) rfl (by kernel_rfl) (by kernel_rfl) (by kernel_rfl) (fun _ _ _ h => h) (Or.inl ⟨by rfl, ?hy22_23⟩) (by assumption) ?rest22_23
      case hy22_23 => intro W hSW; go_simp; try rfl
      try simp only [Act.put, List.setIfInBounds_toArray, List.set_cons_zero, List.set_cons_succ]
      refine wpAnyH_take (i := 23) (oi := ⟨some 91, _, _, _, _, _⟩) (v := ?v23_24) rfl (by kernel_rfl) (by kernel_rfl) (by kernel_rfl) (fun _ _ _ h => h) (Or.inl ⟨by rfl, ?hy23_24⟩) (by assumption) ?rest23_24
      case hy23_24 => intro W hSW; have cvt := conv_seen (Seen.of_own (own_only HV.out hSW (fun k hk e => own_ne_whole HV.out Z3.out (by decide) k hk e))); go_simp; try rfl
      try simp only [Act.put, List.setIfInBounds_toArray, List.set_cons_zero, List.set_cons_succ]
      refine wpAnyH_take (i := 24) (oi := ⟨some 92, _, _, _, _, _⟩) (v := ?v24_25) rfl (by kernel_rfl) (by kernel_rfl) (by kernel_rfl) (fun _ _ _ h => h) (Or.inl ⟨by rfl, ?hy24_25⟩) (by assumption) ?rest24_25
      case hy24_25 => intro W hSW; go_simp; try rfl
      try simp only [Act.put, List.setIfInBounds_toArray, List.set_cons_zero, List.set_cons_succ]
      refine wpAnyH_take (i := 25) (oi := ⟨some 93, _, _, _, _, _⟩) (v := ?v25_26) rfl (by kernel_rfl) (by kernel_rfl) (by kernel_rfl) (fun _ _ _ h => h) (Or.inl ⟨by rfl, ?hy25_26⟩) (by assumption) ?rest25_26
      case hy25_26 => intro W hSW; go_simp; try rfl
      try simp only [Act.put, List.setIfInBounds_toArray, List.set_cons_zero, List.set_cons_succ]
      refine wpAnyH_take (i := 26) (oi := ⟨some 94, _, _, _, _, _⟩) (v := ?v26_27) rfl (by kernel_rfl) (by kernel_rfl) (by kernel_rfl) (fun _ _ _ h => h) (Or.inl ⟨by rfl, ?hy26_27⟩) (by assumption) ?rest26_27
      case hy26_27 => intro W hSW; go_simp; try rfl
      try simp only [Act.put, List.setIfInBounds_toArray, List.set_cons_zero, List.set_cons_succ]
      refine wpAnyH_take (i := 27) (oi := ⟨some 95, _, _, _, _, _⟩) (v := ?v27_28) rfl (by kernel_rfl) (by kernel_rfl) (by kernel_rfl) (fun _ _ _ h => h) (Or.inl ⟨by rfl, ?hy27_28⟩) (by assumption) ?rest27_28
      case hy27_28 => intro W hSW; have k := (LRow.only K3.out hSW hlz).2 2 _ rfl; go_simp; try rfl
      try simp only [Act.put, List.setIfInBounds_toArray, List.set_cons_zero, List.set_cons_succ]
      refine wpAnyH_take (i := 28) (oi := ⟨some 96, _, _, _, _, _⟩) (v := ?v28_29) rfl (by kernel_rfl) (by kernel_rfl) (by kernel_rfl) (fun _ _ _ h => h) (Or.inl ⟨by rfl, ?hy28_29⟩) (by assumption) ?rest28_29
      case hy28_29 => intro W hSW; go_simp; try rfl
      try simp only [Act.put, List.setIfInBounds_toArray, List.set_cons_zero, List.set_cons_succ]
      refine wpAnyH_ready (rs := [29]) (by kernel_rfl) (by simp) ?_
      refine (AllReadyH.cons (o := ⟨none, _, _, _, _, _⟩) rfl (fun K hK => ?_) AllReadyH.nil)
      · refine step_store_row _ rfl 27 (.tmp 2) (.tmp 92) rfl gz (recC ⟨x1, x3, x2, x4, x5, x6, strOf l, 0⟩) rfl rfl 27 (recC rec0) ZD.out (rec_size ⟨x1, x3, x2, x4, x5, x6, strOf l, 0⟩) rfl (rec_one _) ?_
        refine hK.out _ _ ?_ (fun hHeld2 => ?_)
        · exact hHeld.trans (only_setRow _ _ _)
        clear hK K hHeld
        have hHeld := hHeld2; clear hHeld2
        try simp only [Act.put, List.setIfInBounds_toArray, List.set_cons_zero, List.set_cons_succ]
        have X5 : Hid (RecAt _ gz ⟨x1, x3, x2, x4, x5, x6, strOf l, 0⟩) := Lib.hid (ZD.out.setRow (recC ⟨x1, x3, x2, x4, x5, x6, strOf l, 0⟩))
        have X3 : Hid (RCur (wd.setRow gz (recC ⟨x1, x3, x2, x4, x5, x6, strOf l, 0⟩)) g A c bs a4 0) := Lib.hid (Whole.setRow_far CD.out _ (Ne.symm hzg))
        have X4 := Lib.hid (OD.out.rowNew (a := w) (g := gz) hle (recC ⟨x1, x3, x2, x4, x5, x6, strOf l, 0⟩))
        generalize wd.setRow gz (recC ⟨x1, x3, x2, x4, x5, x6, strOf l, 0⟩) = y30 at *
        refine wpAnyH_take (i := 30) (oi := ⟨some 3, _, _, _, _, _⟩) (v := ?v30_31) rfl (by kernel_rfl) (by kernel_rfl) (by kernel_rfl) (fun _ _ _ h => h) (Or.inl ⟨by rfl, ?hy30_31⟩) (by assumption) ?rest30_31
        case hy30_31 => intro W hSW; go_simp; try rfl
        try simp only [Act.put, List.setIfInBounds_toArray, List.set_cons_zero, List.set_cons_succ]
        refine wpAnyH_done (by kernel_rfl) ?_ _
        go_wp2_with fail
        refine bodyPost_ret (results_rec (p := 2) (u := 3) rfl _ _ gz ⟨x1, x3, x2, x4, x5, x6, strOf l, 0⟩ rfl X5.out) rfl ?_
        exact ⟨rfl, X3.out, X4.out⟩
    · have hRV := HRV.out
      have hR : recRes (l, a4, e4) x0 x1 x2 x3 x4 x5 x6 0 = .tuple #[.agg (recC rec0), .bool false] := by simp [recRes, he]
      rw [hR] at hRV
      subst hRV
      have hne : (e4 != 0) = true := by simpa using he
      clear hR HRV he
      have X5 : Hid (RecAt _ gz rec0) := Lib.hid (Z3.out.setRow (recC rec0))
      have X3 : Hid (RCur (w3.setRow gz (recC rec0)) g A c bs a4 e4) := Lib.hid (Whole.setRow_far C3.out _ (Ne.symm hzg))
      have X4 := Lib.hid (O3.out.rowNew hle (recC rec0))
      go_wp2_with (refine wpList_store_row rfl 27 (.tmp 2) (.tmp 67) rfl gz (recC rec0) rfl rfl 27 (recC rec0) Z3.out (rec_size rec0) rfl (rec_one rec0) ?_)
      refine bodyPost_ret (results_rec (p := 2) (u := 3) rfl _ _ gz rec0 rfl X5.out) rfl ?_
      exact ⟨rfl, X3.out, X4.out⟩

end Go.Proofs.Ytplilajgncfieaa
