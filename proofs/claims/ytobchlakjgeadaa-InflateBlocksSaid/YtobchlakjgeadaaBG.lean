/-
  The walk of InflateBlocks: it answers true, and changes nothing that was there. Conditions: the slice of parts is read as told (PartsAt).
-/
import Derived.Test.YtobchlakjgeadaaBF
import Derived.Test.YtobchlakjgeadaaU3
namespace Go.Proofs.Ytobchlakjgeadaa
open Go.RowKit
set_option maxRecDepth 100000

theorem blocks_far (A : Option Addr) (n cp : Nat) (most : Int) (h : 4 < n ∨ 5000 < most) (w : World) : Calls Try.prog 4 #[.slice A n cp, .int .i64 most] w fun e w' => e = .returned (.bool true) ∧ Below w.heap.size w w' := by
  by_cases h1 : 4 < n
  · have d1 : decide (4 < (n : Int)) = true := decide_eq_true (by omega)
    have d1' : decide (4 < n) = true := decide_eq_true h1
    clear h
    go_enter Try.func4, Try.ntmps4
    go_wp2_with fail
    refine (fixed_any w).mono ?_; rintro e w1 ⟨rfl, hb1⟩; have B1 := Lib.hid hb1; clear hb1
    go_wp2_with fail
    go_ret
    exact ⟨rfl, B1.out⟩
  · have h2 : 5000 < most := h.resolve_left h1
    have d1 : decide (4 < (n : Int)) = false := decide_eq_false (by omega)
    have d1' : decide (4 < n) = false := decide_eq_false h1
    have d2 : decide (5000 < most) = true := decide_eq_true h2
    clear h
    go_enter Try.func4, Try.ntmps4
    go_wp2_with fail
    refine (fixed_any w).mono ?_; rintro e w1 ⟨rfl, hb1⟩; have B1 := Lib.hid hb1; clear hb1
    go_wp2_with fail
    go_ret
    exact ⟨rfl, B1.out⟩

set_option maxHeartbeats 8000000 in
theorem blocks_near (A : Option Addr) (n cp : Nat) (hn : n ≤ 4) (most : Int) (hm : most ≤ 5000) (w : World) (hs : PartsAt w w.heap.size A n) :
    Calls Try.prog 4 #[.slice A n cp, .int .i64 most] w fun e w' => e = .returned (.bool true) ∧ Below w.heap.size w w' := by
  obtain ⟨j0, hj0, hy0, hy1, hy2⟩ := info_parts bool_info
  have d1 : decide (4 < (n : Int)) = false := decide_eq_false (by omega)
  have d1' : decide (4 < n) = false := decide_eq_false (by omega)
  have d2 : decide (5000 < most) = false := decide_eq_false (by omega)
  have HS := Lib.hid hs; clear hs
  go_enter Try.func4, Try.ntmps4
  go_wp2_with fail
  refine (fixed_any w).mono ?_; rintro e w1 ⟨rfl, hb1⟩; have B1 := Lib.hid hb1; clear hb1
  go_wp2_with fail
  go_loopw [5, 26] (fun v i wr => ∃ (k kl : Nat) (L : List Bool), k ≤ n ∧ i = .int .i64 k ∧ L.length = kl ∧ kl ≤ 9000 * k ∧ wr.ownsRow w.heap.size 4 1 v kl (L.map .bool) ∧ Below w.heap.size w wr) (fun _ i _ => n - (intOf i).toNat)
  case atStart => exact ⟨0, 0, [], Nat.zero_le _, rfl, rfl, Nat.le_refl _, World.ownsRow_nil _ _ _ _, B1.out⟩
  case round =>
    obtain ⟨k, kl, L, hk, rfl, hL, hkl, hown, hbel⟩ := hrel
    obtain ⟨Ao, co, rfl, _⟩ := own_form hown
    have HL := Lib.hid hL; have HO := Lib.hid hown; have HB := Lib.hid hbel
    clear hL hown hbel
    by_cases hlt : k < n
    · obtain ⟨b, of', p, rfl, hbB, hp, hcell⟩ := (HS.out.below HB.out) k hlt
      have hsz := HB.out.size
      obtain ⟨kd, la, Ar, nr, cr, bs, As, ns, cs, ss, Am, nm, cm, ms, sp, Al, nl, cl, ls, Af, nf, cf, fs⟩ := p
      have hbr : b < wr.heap.size := by omega
      have hne : wr.heap.size ≠ b := by omega
      have c0 : wr.cell? ⟨b, of' + k * 8, none⟩ = some (.int .u8 kd) := hcell 0 _ rfl
      have c1 : wr.cell? ⟨b, of' + k * 8 + 1, none⟩ = some (.bool la) := hcell 1 _ rfl
      have c2 : wr.cell? ⟨b, of' + k * 8 + 2, none⟩ = some (.slice Ar nr cr) := hcell 2 _ rfl
      have c3 : wr.cell? ⟨b, of' + k * 8 + 3, none⟩ = some (.slice As ns cs) := hcell 3 _ rfl
      have c4 : wr.cell? ⟨b, of' + k * 8 + 4, none⟩ = some (.slice Am nm cm) := hcell 4 _ rfl
      have c5 : wr.cell? ⟨b, of' + k * 8 + 5, none⟩ = some (.int .i64 sp) := hcell 5 _ rfl
      have c6 : wr.cell? ⟨b, of' + k * 8 + 6, none⟩ = some (.slice Al nl cl) := hcell 6 _ rfl
      have c7 : wr.cell? ⟨b, of' + k * 8 + 7, none⟩ = some (.slice Af nf cf) := hcell 7 _ rfl
      have hk0 : (0 : Int) ≤ k := by omega
      have HPI := Lib.hid hp
      clear hp hcell
      have hB5 : Below wr.heap.size wr (wr.alloc (.cells #[.int .u8 kd, .bool la, .slice Ar nr cr, .slice As ns cs, .slice Am nm cm, .int .i64 sp, .slice Al nl cl, .slice Af nf cf] 33)) := (Below.refl _ _).alloc (Nat.le_refl _) _
      have WT := Lib.hid (Whole.new wr 33 #[.int .u8 kd, .bool la, .slice Ar nr cr, .slice As ns cs, .slice Am nm cm, .int .i64 sp, .slice Al nl cl, .slice Af nf cf])
      have HO5 := Lib.hid (own_only HO.out (Only.of_below hB5 Nob) (fun _ _ h => h))
      have HB5 := Lib.hid (HB.out.trans (hB5.mono HB.out.size))
      have HPI5 := Lib.hid (HPI.out.below (hB5.mono hsz))
      obtain ⟨g6, hg6⟩ : ∃ g6, wr.heap.size = g6 := ⟨_, rfl⟩
      rw [hg6] at WT hbr hne
      clear hB5 HPI
      by_cases h0 : 100 < nr
      · have e0 : decide (100 < nr) = true := decide_eq_true h0
        have e0' : decide (100 < (nr : Int)) = true := decide_eq_true (by omega)
        go_wp2_with fail
        go_ret
        exact ⟨rfl, HB5.out⟩
      have e0 : decide (100 < nr) = false := decide_eq_false h0
      have e0' : decide (100 < (nr : Int)) = false := decide_eq_false (by omega)
      by_cases h1 : 40 < ns
      · have e1 : decide (40 < ns) = true := decide_eq_true h1
        have e1' : decide (40 < (ns : Int)) = true := decide_eq_true (by omega)
        go_wp2_with fail
        go_ret
        exact ⟨rfl, HB5.out⟩
      have e1 : decide (40 < ns) = false := decide_eq_false h1
      have e1' : decide (40 < (ns : Int)) = false := decide_eq_false (by omega)
      by_cases h2 : 80 < nm
      · have e2 : decide (80 < nm) = true := decide_eq_true h2
        have e2' : decide (80 < (nm : Int)) = true := decide_eq_true (by omega)
        go_wp2_with fail
        go_ret
        exact ⟨rfl, HB5.out⟩
      have e2 : decide (80 < nm) = false := decide_eq_false h2
      have e2' : decide (80 < (nm : Int)) = false := decide_eq_false (by omega)
      by_cases h3 : 286 < nl
      · have e3 : decide (286 < nl) = true := decide_eq_true h3
        have e3' : decide (286 < (nl : Int)) = true := decide_eq_true (by omega)
        go_wp2_with fail
        go_ret
        exact ⟨rfl, HB5.out⟩
      have e3 : decide (286 < nl) = false := decide_eq_false h3
      have e3' : decide (286 < (nl : Int)) = false := decide_eq_false (by omega)
      by_cases h4 : 30 < nf
      · have e4 : decide (30 < nf) = true := decide_eq_true h4
        have e4' : decide (30 < (nf : Int)) = true := decide_eq_true (by omega)
        go_wp2_with fail
        go_ret
        exact ⟨rfl, HB5.out⟩
      have e4 : decide (30 < nf) = false := decide_eq_false h4
      have e4' : decide (30 < (nf : Int)) = false := decide_eq_false (by omega)
      have q0 := WT.out.cell 0
      have q1 := WT.out.cell 1
      have q2 := WT.out.cell 2
      have q3 := WT.out.cell 3
      have q4 := WT.out.cell 4
      have q5 := WT.out.cell 5
      have q6 := WT.out.cell 6
      have q7 := WT.out.cell 7
      simp only [List.getElem?_toArray, List.getElem?_cons_succ, List.getElem?_cons_zero] at q0 q1 q2 q3 q4 q5 q6 q7
      have hH : kl ≤ 100000 := by omega
      have CB := Lib.hid (part_bits kd HPI5.out.kd la sp Ar nr cr bs HPI5.out.bs.1 (by omega) HPI5.out.bs.2.1 As ns cs ss HPI5.out.ss.1 (by omega) Am nm cm ms HPI5.out.ms.1 (by omega) HPI5.out.ms.2.1 Al nl cl ls HPI5.out.ls.1 (by omega) Af nf cf fs HPI5.out.fs.1 (by omega) w.heap.size kl hH (wr.alloc (.cells #[.int .u8 kd, .bool la, .slice Ar nr cr, .slice As ns cs, .slice Am nm cm, .int .i64 sp, .slice Al nl cl, .slice Af nf cf] 33)) HB5.out.size HPI5.out.bs.2.2 HPI5.out.ss.2 HPI5.out.ms.2.2 HPI5.out.ls.2 HPI5.out.fs.2)
      clear HPI5
      unfold partV at CB
      go_wp2_with fail
      refine CB.out.mono ?_
      rintro e wa ⟨Ls, va, hLs, rfl, howna, hba⟩
      obtain ⟨Aa, ca, rfl, _, hsa⟩ := own_seen howna
      have SA := Lib.hid hsa
      have OA := Lib.hid (own_only HO5.out (Only.of_below hba Nob) (fun _ _ h => h))
      have BA := Lib.hid (HB5.out.trans (hba.mono HB5.out.size))
      obtain ⟨nL, hnL⟩ : ∃ nL, Ls.length = nL := ⟨_, rfl⟩
      have HNL := Lib.hid hnL
      rw [hnL] at SA hLs ⊢
      clear howna hsa hba hnL q0 q1 q2 q3 q4 q5 q6 q7 c0 c1 c2 c3 c4 c5 c6 c7
      go_wp2_with (at_builtin; refine wpList_append_seen _ rfl (.tmp 58) (.tmp 62) _ rfl w.heap.size 4 j0 _ 1 1 Try.underlying29 hj0 hy0 hy1 hy2 rfl (by omega) (.slice Ao kl co) kl (L.map .bool) rfl OA.out _ Aa nL ca (Ls.map .bool) rfl SA.out (bools_one _) (by simp only [maxLen]; omega) (by omega) BA.out.size ?_; intro vb wb hownb hgb hatb; have BB := Lib.hid (BA.out.grown hgb BA.out.size (fun j hj => (own_whole OA.out hj).1)); have OB := Lib.hid hownb)
      go_roundw
      case rel => exact ⟨k + 1, kl + nL, L ++ Ls, by omega, by go_num, by rw [List.length_append, HL.out, HNL.out], by omega, by rw [List.map_append]; exact OB.out, BB.out⟩
      case measure => simp [intOf]; omega
    · obtain rfl : k = n := by omega
      have CY := Lib.hid (refBytes_any Ao kl co wr.heap.size L HL.out (by omega) wr (Seen.of_own HO.out) (Nat.le_refl _))
      go_wp2_with fail
      refine CY.out.mono ?_
      rintro e w2 ⟨vy, rfl, howny, hby⟩
      obtain ⟨ny, hny⟩ : ∃ ny, (kl + 7) / 8 = ny := ⟨_, rfl⟩
      rw [hny] at howny
      obtain ⟨Ay, cy, rfl, _, hsy⟩ := own_seen howny
      have hpl : (pack L).length = ny := by rw [pack_length, HL.out, hny]
      have hp256 := pack_lt L
      obtain ⟨bs, hbs⟩ : ∃ bs, pack L = bs := ⟨_, rfl⟩
      rw [hbs] at hsy hpl hp256
      have hny' : ny ≤ 100000 := by omega
      have B2 := Lib.hid (HB.out.trans (hby.mono HB.out.size))
      have SY := Lib.hid hsy; have HPL := Lib.hid hpl; have HP2 := Lib.hid hp256
      clear hsy hpl hp256 howny hby CY hbs hny
      by_cases hneg : most < 0
      · have C1 := Lib.hid (fun W => inflate_arg Ay ny cy most (.inl hneg) W)
        have C2 := Lib.hid (fun W => rinflate_arg Ay ny cy most (.inl hneg) W)
        go_wp2_with fail
        refine (C1.out _).mono ?_; rintro e w3 ⟨rfl, rfl⟩
        go_wp2_with fail
        refine (C2.out _).mono ?_; rintro e w4 ⟨rfl, rfl⟩
        have cv := conv_nil w2
        go_wp2_with fail
        go_ret
        exact ⟨by simp, B2.out⟩
      · obtain ⟨most, rfl⟩ := Int.eq_ofNat_of_zero_le (show 0 ≤ most by omega)
        have C1 : Hid (∀ W, Below w2.heap.size w2 W → Calls Try.prog 8 #[.slice Ay ny cy, .int .i64 most] W (InfRes (unpack bs) most W)) := Lib.hid (fun W hB => inflate_any Ay ny cy w2.heap.size bs most (by omega) HPL.out hny' HP2.out W (SY.out.below hB) hB.size)
        have C2 : Hid (∀ W, Below w2.heap.size w2 W → Calls Try.prog 9 #[.slice Ay ny cy, .int .i64 most] W (InfRes (unpack bs) most W)) := Lib.hid (fun W hB => rinflate_any Ay ny cy w2.heap.size bs most (by omega) HPL.out hny' HP2.out W (SY.out.below hB) hB.size)
        clear SY HPL HP2
        go_wp2_with fail
        refine (C1.out w2 (Below.refl _ _)).mono ?_
        rintro e w3 (⟨a, o, v, hR, _, _, rfl, hown, hb2⟩ | ⟨er, e0, e1, hR, rfl, hb2⟩)
        · have B3 := Lib.hid (B2.out.trans (hb2.mono B2.out.size))
          have B23 := Lib.hid hb2
          obtain ⟨Av, cv, rfl, _, hsv⟩ := own_seen hown
          have SV := Lib.hid hsv
          have HR := Lib.hid hR
          clear hR hown hb2 hsv
          obtain ⟨nr, hnr⟩ : ∃ nr, (a + 7) / 8 = nr := ⟨_, rfl⟩
          rw [hnr]
          have HNR := Lib.hid hnr; clear hnr
          go_wp2_with fail
          refine (C2.out w3 B23.out).mono ?_
          rintro e w4 hres
          obtain ⟨v4, rfl, hown4, hb4⟩ := inf_ok hres HR.out
          rw [HNR.out]
          have B4 := Lib.hid (B3.out.trans (hb4.mono B3.out.size))
          obtain ⟨A4, c4, rfl, _, hs4⟩ := own_seen hown4
          have cv1 : (convert 22 9 (.slice Av o.length cv)).run Try.prog w4 = .ok (.string (strOf o)) w4 := conv_seen (SV.out.below hb4)
          have cv2 : (convert 22 9 (.slice A4 o.length c4)).run Try.prog w4 = .ok (.string (strOf o)) w4 := conv_seen hs4
          clear hres hown4 hb4 hs4
          obtain ⟨T, hT⟩ : ∃ T, strOf o = T := ⟨_, rfl⟩
          rw [hT] at cv1 cv2
          obtain ⟨ol, hol⟩ : ∃ ol, o.length = ol := ⟨_, rfl⟩
          rw [hol] at cv1 cv2 ⊢
          clear hT hol
          go_wp2_with fail
          go_ret
          exact ⟨by simp, B4.out⟩
        · have B3 := Lib.hid (B2.out.trans (hb2.mono B2.out.size))
          have B23 := Lib.hid hb2
          have HR := Lib.hid hR
          clear hR hb2
          go_wp2_with fail
          refine (C2.out w3 B23.out).mono ?_
          rintro e w4 hres
          obtain ⟨rfl, hb4⟩ := inf_er hres HR.out
          have B4 := Lib.hid (B3.out.trans (hb4.mono B3.out.size))
          have cv := conv_nil w4
          clear hres hb4
          go_wp2_with fail
          go_ret
          exact ⟨by simp, B4.out⟩

theorem blocks_law (A : Option Addr) (n cp : Nat) (most : Int) (w : World) (hs : PartsAt w w.heap.size A n) :
    Calls Try.prog 4 #[.slice A n cp, .int .i64 most] w fun e w' => e = .returned (.bool true) ∧ Below w.heap.size w w' := by
  by_cases hf : 4 < n ∨ 5000 < most
  · exact blocks_far A n cp most hf w
  · exact blocks_near A n cp (by omega) most (by omega) w hs
end Go.Proofs.Ytobchlakjgeadaa
