/-
  The contract of a chains' find: a token that fits the place. Conditions: the chains stand as told (ChAt), their things are where they should be (Kx.Good), no place hangs that is not ahead.
-/
import Derived.Test.YthlgceeldnhhbaaS
import Derived.Test.YthlgceeldnhhbaaI
namespace Go.Proofs.Ythlgceeldnhhbaa
open Go.RowKit
set_option maxRecDepth 100000

/-- A token that fits, if the place is one. -/
def Found (k : Kx) (a : Nat) (w : World) (e : Ending) (w' : World) : Prop := ∃ T : Tok, (a < k.n → Fits k.bs a T) ∧ 0 ≤ T.len ∧ e = .returned (tokV T) ∧ Below w.heap.size w w'

theorem cfind_out {k : Kx} (h a : Nat) (ha : k.n ≤ a) (w : World) (H : ChAt k w h) : Calls Try.prog 20 #[.pointer (some ⟨k.C, 0, none⟩), .int .i64 a] w (Found k a w) := by
  have W0 : Hid (Whole (w.alloc (.cells #[.int .u8 0, .int .i64 0, .int .i64 0] 29)) w.heap.size 29 #[.int .u8 0, .int .i64 0, .int .i64 0]) := Lib.hid (Whole.new w 29 _)
  have BD : Hid (Below w.heap.size w (w.alloc (.cells #[.int .u8 0, .int .i64 0, .int .i64 0] 29))) := Lib.hid ((Below.refl _ _).alloc (Nat.le_refl _) _)
  have c0 := H.c0
  have hlt : k.C < w.heap.size := H.ch.lt
  have hne : w.heap.size ≠ k.C := by omega
  have d0 : decide ((k.n : Int) ≤ a) = true := decide_eq_true (by omega)
  have d0' : decide (k.n ≤ a) = true := decide_eq_true (by omega)
  clear H
  go_enter Try.func20, Try.ntmps20
  go_wp2_with fail
  exact bodyPost_ret (v := tokV ⟨0, 0, 0⟩) (results_cell_row (p := 4) (ty := 29) rfl _ _ w.heap.size 29 #[.int .u8 0, .int .i64 0, .int .i64 0] (0, 0) _ rfl W0.out Try.underlying29 rfl tok_size) rfl ⟨⟨0, 0, 0⟩, fun hn => absurd hn (by omega), by simp, rfl, BD.out⟩

set_option maxHeartbeats 2000000 in
theorem cfind_in {k : Kx} (G : k.Good) (h a : Nat) (ha : a < k.n) (hh : h ≤ a) (w : World) (H : ChAt k w h) : Calls Try.prog 20 #[.pointer (some ⟨k.C, 0, none⟩), .int .i64 a] w (Found k a w) := by
  have c0 := H.c0
  have hlt : k.C < w.heap.size := H.ch.lt
  have hne : w.heap.size ≠ k.C := by omega
  have hnl := G.long
  have hL := G.L
  have d0 : decide ((k.n : Int) ≤ a) = false := decide_eq_false (by omega)
  have d0' : decide (k.n ≤ a) = false := decide_eq_false (by omega)
  obtain ⟨b, o, hA, hbB, hcell⟩ := H.seen.bytes G.len (by omega)
  have xa := hcell a ha
  have hbw : b < w.heap.size := by have := H.size; omega
  have hne2 : w.heap.size ≠ b := by omega
  rw [hA] at c0
  obtain ⟨la, hla⟩ : ∃ x, k.bs.getD a 0 = x := ⟨_, rfl⟩
  rw [hla] at xa
  have HF0 : Hid (Fits k.bs a ⟨la, 0, 0⟩) := Lib.hid (by rw [← hla]; exact Fits.byte _ _)
  clear hla hcell
  have a0 : (0 : Int) ≤ a := by omega
  have HH := Lib.hid H; have HG := Lib.hid G
  have hV0 : Whole ((w.alloc (.cells #[.int .u8 0, .int .i64 0, .int .i64 0] 29)).alloc (.cells #[.int .u8 la, .int .i64 0, .int .i64 0] 29)) (w.heap.size + 1) 29 #[.int .u8 la, .int .i64 0, .int .i64 0] := by simpa using Whole.new (w.alloc (.cells #[.int .u8 0, .int .i64 0, .int .i64 0] 29)) 29 #[.int .u8 la, .int .i64 0, .int .i64 0]
  have hW0 : Whole ((w.alloc (.cells #[.int .u8 0, .int .i64 0, .int .i64 0] 29)).alloc (.cells #[.int .u8 la, .int .i64 0, .int .i64 0] 29)) w.heap.size 29 #[.int .u8 0, .int .i64 0, .int .i64 0] := (Whole.new w 29 _).alloc _
  have hBD : Below w.heap.size w ((w.alloc (.cells #[.int .u8 0, .int .i64 0, .int .i64 0] 29)).alloc (.cells #[.int .u8 la, .int .i64 0, .int .i64 0] 29)) := ((Below.refl _ _).alloc (Nat.le_refl _) _).alloc (by simp) _
  have hC0 := H.below hBD
  have V0 := Lib.hid hV0; have W0 := Lib.hid hW0; have BD := Lib.hid hBD; have C0 := Lib.hid hC0
  clear hV0 hW0 hBD hC0 H G
  obtain ⟨f, hf⟩ : ∃ f, a - 32768 = f := ⟨_, rfl⟩
  have CF := Lib.hid (fun W => farthest_nat a f hf (by omega) W)
  go_enter Try.func20, Try.ntmps20
  go_wp2_with fail
  refine (newest_any HG.out h a (by omega) _ C0.out).mono ?_
  rintro e w1 ⟨p, hp1, hp2, rfl, hb1⟩
  have V1 := Lib.hid (V0.out.only (Only.of_below hb1 Nob) (fun h => h))
  have W1 := Lib.hid (W0.out.only (Only.of_below hb1 Nob) (fun h => h))
  have C1 := Lib.hid (C0.out.below hb1)
  have B1 := Lib.hid (BD.out.trans (hb1.mono BD.out.size))
  clear hb1
  go_wp2_with fail
  go_loopw [6, 7] (fun pv lv wr => ∃ (T : Tok) (p : Int) (l : Nat), l ≤ 64 ∧ lv = .int .i64 l ∧ pv = .int .i64 p ∧ -1 ≤ p ∧ p < a ∧ Fits k.bs a T ∧ Whole wr (w.heap.size + 1) 29 #[.int .u8 T.lit, .int .i64 T.len, .int .i64 T.dist] ∧ Whole wr w.heap.size 29 #[.int .u8 0, .int .i64 0, .int .i64 0] ∧ ChAt k wr h ∧ Below w.heap.size w wr) (fun _ lv _ => 64 - (intOf lv).toNat)
  case atStart => exact ⟨⟨la, 0, 0⟩, p, 0, by omega, rfl, rfl, hp1, by omega, HF0.out, V1.out, W1.out, C1.out, B1.out⟩
  case round =>
    obtain ⟨T, q, l, hl, rfl, rfl, hq1, hq2, hfit, hV, hW, hC, hbel⟩ := hrel
    have HFT := Lib.hid hfit
    obtain ⟨m, hm⟩ := Int.eq_ofNat_of_zero_le (hfit.len (by rw [HG.out.len]; exact ha)).1
    obtain ⟨tl, tm, td⟩ := T
    simp only at hV hm
    subst hm
    have v1 : wr.cell? ⟨w.heap.size + 1, 1, none⟩ = some (.int .i64 m) := hV.cell 1
    have v0 : wr.cell? ⟨w.heap.size + 1, 0, none⟩ = some (.int .u8 tl) := hV.cell 0
    have v2 : wr.cell? ⟨w.heap.size + 1, 2, none⟩ = some (.int .i64 td) := hV.cell 2
    have z0 := hW.frozen 0
    have z1 := hW.frozen 1
    have z2 := hW.frozen 2
    have y0 : wr.cell? ⟨w.heap.size, 0, none⟩ = some (.int .u8 0) := hW.cell 0
    have y1 : wr.cell? ⟨w.heap.size, 1, none⟩ = some (.int .i64 0) := hW.cell 1
    have y2 : wr.cell? ⟨w.heap.size, 2, none⟩ = some (.int .i64 0) := hW.cell 2
    have HV := Lib.hid hV; have HW := Lib.hid hW; have HC := Lib.hid hC; have HBel := Lib.hid hbel
    clear hV hW hC hbel hfit
    by_cases hgo : l < 64 ∧ (f : Int) ≤ q
    · obtain ⟨hl64, hfq⟩ := hgo
      obtain ⟨r, rfl⟩ := Int.eq_ofNat_of_zero_le (show 0 ≤ q by omega)
      have e0 : decide ((l : Int) < 64) = true := decide_eq_true (by omega)
      have e0' : decide (l < 64) = true := decide_eq_true hl64
      have e1 : decide ((f : Int) ≤ r) = true := decide_eq_true (by omega)
      have e1' : decide (f ≤ r) = true := decide_eq_true (by omega)
      have k0 := HC.out.c0
      rw [hA] at k0
      have hsz := HBel.out.size
      go_wp2_with fail
      refine (CF.out _).mono ?_; rintro e w1 ⟨rfl, rfl⟩
      go_wp2_with fail
      refine wp_region_still_tail 7 (by kernel_rfl) (by kernel_rfl) ?_
      simp only [List.take_succ_cons, List.take_zero, List.drop_succ_cons, List.drop_zero]
      repeat still_step
      refine wpStill_nil ?_
      have HC2 : Hid (ChAt k ({ wr with drawn := wr.drawn + 1 } : World) h) := Lib.hid (HC.out.drewN 1)
      have HV2 : Hid (Whole ({ wr with drawn := wr.drawn + 1 } : World) (w.heap.size + 1) 29 #[.int .u8 tl, .int .i64 m, .int .i64 td]) := Lib.hid (HV.out.drewN 1)
      have HW2 : Hid (Whole ({ wr with drawn := wr.drawn + 1 } : World) w.heap.size 29 #[.int .u8 0, .int .i64 0, .int .i64 0]) := Lib.hid (HW.out.drewN 1)
      have HB2 : Hid (Below w.heap.size w ({ wr with drawn := wr.drawn + 1 } : World)) := Lib.hid (below_drew HBel.out)
      generalize ({ wr with drawn := wr.drawn + 1 } : World) = W2 at HC2 HV2 HW2 HB2 ⊢
      clear HC HV HW HBel v0 v1 v2 z0 z1 z2 y0 y1 y2 k0
      have CL := Lib.hid (longer_any k.A k.n k.c k.B k.bs HG.out.len hnl a r (a - r) rfl (by omega) ha tl m td W2 HC2.out.seen HC2.out.size)
      have HFL := Lib.hid (HFT.out.longer (d := a - r) (by rw [HG.out.len]; exact ha) (by omega) (by omega) (by omega))
      rw [hA] at CL
      obtain ⟨U, hU⟩ : ∃ U, longerT k.bs a (a - r) ⟨tl, m, td⟩ = U := ⟨_, rfl⟩
      rw [hU] at CL HFL
      obtain ⟨ul, um, ud⟩ := U
      simp only [tokV] at CL
      clear hU
      go_wp2_with fail
      refine CL.out.mono ?_; rintro e w3 ⟨rfl, hb3⟩
      have hC3 := HC2.out.below hb3
      have hV3 := HV2.out.only (Only.of_below hb3 Nob) (fun h => h)
      have hW3 := HW2.out.only (Only.of_below hb3 Nob) (fun h => h)
      have hB3 := HB2.out.trans (hb3.mono HB2.out.size)
      have x0 : w3.cell? ⟨w.heap.size + 1, 0, none⟩ = some (.int .u8 tl) := hV3.cell 0
      have x1 : w3.cell? ⟨w.heap.size + 1, 1, none⟩ = some (.int .i64 m) := hV3.cell 1
      have x2 : w3.cell? ⟨w.heap.size + 1, 2, none⟩ = some (.int .i64 td) := hV3.cell 2
      have z0 := hV3.frozen 0
      have z1 := hV3.frozen 1
      have z2 := hV3.frozen 2
      have hV4 := hV3.put3 (.int .u8 ul) (.int .i64 um) (.int .i64 ud)
      have hW4 := ((hW3.far (p := ⟨w.heap.size + 1, 0, none⟩) (by simp) (.int .u8 ul)).far (p := ⟨w.heap.size + 1, 1, none⟩) (by simp) (.int .i64 um)).far (p := ⟨w.heap.size + 1, 2, none⟩) (by simp) (.int .i64 ud)
      have hB4 := below_put3 hB3 (g := w.heap.size + 1) (by omega) (.int .u8 ul) (.int .i64 um) (.int .i64 ud)
      have hO4 : Only (fun i => i = w.heap.size + 1) w3 (((w3.setCell ⟨w.heap.size + 1, 0, none⟩ (.int .u8 ul)).setCell ⟨w.heap.size + 1, 1, none⟩ (.int .i64 um)).setCell ⟨w.heap.size + 1, 2, none⟩ (.int .i64 ud)) := (((Only.refl (fun i => i = w.heap.size + 1) w3).setCell (p := ⟨w.heap.size + 1, 0, none⟩) (.inl rfl) _).setCell (p := ⟨w.heap.size + 1, 1, none⟩) (.inl rfl) _).setCell (p := ⟨w.heap.size + 1, 2, none⟩) (.inl rfl) _
      have hC4 := hC3.only hO4 (hC3.ch.ne hV3 (by decide)) (hC3.mp.ne hV3) (by obtain ⟨zs, _, _, q3⟩ := hC3.ah; exact q3.ne hV3 (by decide)) (fun i hi e => by have := HH.out.size; omega)
      have HV4 := Lib.hid hV4; have HW4 := Lib.hid hW4; have HB4 := Lib.hid hB4; have HC4 := Lib.hid hC4
      clear hb3 hC3 hV3 hW3 hB3 hV4 hW4 hB4 hC4 hO4 HC2 HV2 HW2 HB2
      go_wp2_with fail
      generalize (((w3.setCell ⟨w.heap.size + 1, 0, none⟩ (.int .u8 ul)).setCell ⟨w.heap.size + 1, 1, none⟩ (.int .i64 um)).setCell ⟨w.heap.size + 1, 2, none⟩ (.int .i64 ud)) = W5 at *
      clear x0 x1 x2 z0 z1 z2
      obtain ⟨L, hLe⟩ : ∃ L, k.L = L := ⟨_, rfl⟩
      have c2 := HC4.out.c2
      rw [hLe] at c2 hL
      obtain ⟨s, hs⟩ : ∃ s, r % L = s := ⟨_, rfl⟩
      have hsL : s < L := by rw [← hs]; exact Nat.mod_lt _ (by omega)
      obtain ⟨z, hz1, hz2, cz, _⟩ := HC4.out.cellQ (q := s) (by rw [hLe]; exact hsL)
      have hsr : s ≤ r := by rw [← hs]; exact Nat.mod_le _ _
      have eq1 : (r : Int).tmod L = s := by rw [Int.tmod_eq_emod_of_nonneg (by omega)]; omega
      have eq2 : (r : Int) % L = s := by omega
      have L0 : (L : Int) ≠ 0 := by omega
      have L0' : ((L : Int) == 0) = false := by simpa using L0
      have L0'' : L ≠ 0 := by omega
      have s0 : (0 : Int) ≤ s := by omega
      have s1 : (s : Int) < L := by omega
      have ws : IntKind.i64.wrap (s : Int) = s := IntWalk.i64_in _ (by omega)
      have hza : z < a := by omega
      clear hL hLe hs hz2
      go_quiet (fail)
      go_wp2_with fail
      go_roundw
      case rel => exact ⟨⟨ul, um, ud⟩, z, l + 1, by omega, by go_num, rfl, hz1, hza, HFL.out, HV4.out.drewN nq, HW4.out.drewN nq, HC4.out.drewN nq, below_drewN HB4.out nq⟩
      case measure => simp [intOf]; omega
    · by_cases hl64 : l < 64
      · have e0 : decide ((l : Int) < 64) = true := decide_eq_true (by omega)
        have e0' : decide (l < 64) = true := decide_eq_true hl64
        have e1 : decide ((f : Int) ≤ q) = false := decide_eq_false (by omega)
        go_wp2_with fail
        refine (CF.out _).mono ?_; rintro e w1 ⟨rfl, rfl⟩
        go_wp2_with fail
        exact bodyPost_ret (v := tokV ⟨tl, m, td⟩) (results_cell_row (p := 4) (ty := 29) rfl _ _ w.heap.size 29 #[.int .u8 tl, .int .i64 m, .int .i64 td] (0, 0) _ rfl (HW.out.put3 _ _ _) Try.underlying29 rfl tok_size) rfl ⟨⟨tl, m, td⟩, fun _ => HFT.out, by simp, rfl, below_put3 HBel.out (by omega) _ _ _⟩
      · have e0 : decide ((l : Int) < 64) = false := decide_eq_false (by omega)
        have e0' : decide (l < 64) = false := decide_eq_false hl64
        go_wp2_with fail
        exact bodyPost_ret (v := tokV ⟨tl, m, td⟩) (results_cell_row (p := 4) (ty := 29) rfl _ _ w.heap.size 29 #[.int .u8 tl, .int .i64 m, .int .i64 td] (0, 0) _ rfl (HW.out.put3 _ _ _) Try.underlying29 rfl tok_size) rfl ⟨⟨tl, m, td⟩, fun _ => HFT.out, by simp, rfl, below_put3 HBel.out (by omega) _ _ _⟩

theorem cfind_any {k : Kx} (G : k.Good) (h a : Nat) (hh : h ≤ a) (w : World) (H : ChAt k w h) : Calls Try.prog 20 #[.pointer (some ⟨k.C, 0, none⟩), .int .i64 a] w (Found k a w) := by
  by_cases ha : a < k.n
  · exact cfind_in G h a ha hh w H
  · exact cfind_out h a (by omega) w H
end Go.Proofs.Ythlgceeldnhhbaa
