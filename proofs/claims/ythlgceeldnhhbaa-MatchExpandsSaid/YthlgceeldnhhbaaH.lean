/-
  The contract of the document's Find. Conditions: the bytes are read as told (Seen), at most 100000 of them.
-/
import Derived.Test.YthlgceeldnhhbaaG
namespace Go.Proofs.Ythlgceeldnhhbaa
open Go.RowKit
set_option maxRecDepth 100000

theorem rfind_out (A : Option Addr) (n c : Nat) (x : Int) (h : x < 0 ∨ (n : Int) ≤ x) (w : World) : Calls Try.prog 13 #[.slice A n c, .int .i64 x] w (Gives w (tokV ⟨0, 0, 0⟩)) := by
  have W0 : Hid (Whole (w.alloc (.cells #[.int .u8 0, .int .i64 0, .int .i64 0] 29)) w.heap.size 29 #[.int .u8 0, .int .i64 0, .int .i64 0]) := Lib.hid (Whole.new w 29 _)
  have BD : Hid (Below w.heap.size w (w.alloc (.cells #[.int .u8 0, .int .i64 0, .int .i64 0] 29))) := Lib.hid ((Below.refl _ _).alloc (Nat.le_refl _) _)
  by_cases h1 : x < 0
  · clear h
    go_enter Try.func13, Try.ntmps13
    go_wp2_with fail
    refine bodyPost_ret (v := tokV ⟨0, 0, 0⟩) (results_cell_row (p := 4) (ty := 29) rfl _ _ w.heap.size 29 #[.int .u8 0, .int .i64 0, .int .i64 0] (0, 0) _ rfl W0.out Try.underlying29 rfl tok_size) rfl ⟨rfl, BD.out⟩
  · have h2 : (n : Int) ≤ x := h.resolve_left h1
    clear h
    go_enter Try.func13, Try.ntmps13
    go_wp2_with fail
    refine bodyPost_ret (v := tokV ⟨0, 0, 0⟩) (results_cell_row (p := 4) (ty := 29) rfl _ _ w.heap.size 29 #[.int .u8 0, .int .i64 0, .int .i64 0] (0, 0) _ rfl W0.out Try.underlying29 rfl tok_size) rfl ⟨rfl, BD.out⟩

set_option maxHeartbeats 8000000 in
theorem rfind_in (A : Option Addr) (n c B : Nat) (bs : List Nat) (hb : bs.length = n) (hn : n ≤ 100000) (a : Nat) (ha : a < n) (w : World) (hs : Seen w B 1 A n c (bx bs)) (hB : B ≤ w.heap.size) :
    Calls Try.prog 13 #[.slice A n c, .int .i64 a] w (Gives w (tokV (bestT bs a (min a 32768)))) := by
  obtain ⟨b, o, rfl, hbB, hcell⟩ := hs.bytes hb (by omega)
  have hbw : b < w.heap.size := by omega
  have xa := hcell a (by omega)
  have HC := Lib.hid hcell; clear hcell hs
  obtain ⟨M, hM⟩ : ∃ M, mostAt bs a = M := ⟨_, rfl⟩
  have hM' := hM
  unfold mostAt at hM'
  rw [hb] at hM'
  have HM := Lib.hid hM; clear hM
  obtain ⟨F, hF⟩ : ∃ F, min a 32768 = F := ⟨_, rfl⟩
  rw [hF]
  have hne : w.heap.size ≠ b := by omega
  obtain ⟨la, hla⟩ : ∃ x, bs.getD a 0 = x := ⟨_, rfl⟩
  rw [hla] at xa
  have HLA := Lib.hid hla; clear hla
  have HB0 : Hid (bestT bs a 0 = ⟨la, 0, 0⟩) := Lib.hid (by unfold bestT; rw [HLA.out])
  have a0 : (0 : Int) ≤ a := by omega
  have V0 : Hid (Whole ((w.alloc (.cells #[.int .u8 0, .int .i64 0, .int .i64 0] 29)).alloc (.cells #[.int .u8 la, .int .i64 0, .int .i64 0] 29)) (w.heap.size + 1) 29 #[.int .u8 la, .int .i64 0, .int .i64 0]) := Lib.hid (by simpa using Whole.new (w.alloc (.cells #[.int .u8 0, .int .i64 0, .int .i64 0] 29)) 29 #[.int .u8 la, .int .i64 0, .int .i64 0])
  have W0 : Hid (Whole ((w.alloc (.cells #[.int .u8 0, .int .i64 0, .int .i64 0] 29)).alloc (.cells #[.int .u8 la, .int .i64 0, .int .i64 0] 29)) w.heap.size 29 #[.int .u8 0, .int .i64 0, .int .i64 0]) := Lib.hid ((Whole.new w 29 _).alloc _)
  have BD : Hid (Below w.heap.size w ((w.alloc (.cells #[.int .u8 0, .int .i64 0, .int .i64 0] 29)).alloc (.cells #[.int .u8 la, .int .i64 0, .int .i64 0] 29))) := Lib.hid (((Below.refl _ _).alloc (Nat.le_refl _) _).alloc (by simp) _)
  have d0 : decide ((a : Int) < 0) = false := decide_eq_false (by omega)
  have d1 : decide ((n : Int) ≤ a) = false := decide_eq_false (by omega)
  have d1' : decide (n ≤ a) = false := decide_eq_false (by omega)
  go_enter Try.func13, Try.ntmps13
  go_wp2_with fail
  go_loopw [6] (fun i wr => ∃ D : Nat, D ≤ F ∧ i = .int .i64 ((D : Int) + 1) ∧ Whole wr (w.heap.size + 1) 29 #[.int .u8 (bestT bs a D).lit, .int .i64 (bestT bs a D).len, .int .i64 (bestT bs a D).dist] ∧ Whole wr w.heap.size 29 #[.int .u8 0, .int .i64 0, .int .i64 0] ∧ Below w.heap.size w wr) (fun i _ => F + 1 - (intOf i).toNat)
  case atStart => exact ⟨0, Nat.zero_le _, rfl, by rw [HB0.out]; exact V0.out, W0.out, BD.out⟩
  case round =>
    obtain ⟨D, hD, rfl, hV, hW, hbel⟩ := hrel
    by_cases hDF : D < F
    · have HS : Hid (bestT bs a (D + 1) = longerT bs a (D + 1) (bestT bs a D)) := Lib.hid rfl
      obtain ⟨T, hT⟩ : ∃ T, bestT bs a D = T := ⟨_, rfl⟩
      rw [hT] at hV HS
      obtain ⟨tl, tm, td⟩ := T
      simp only at hV
      have HV := Lib.hid hV; have HW := Lib.hid hW; have HBel := Lib.hid hbel
      clear hV hW hbel hT
      have q1 : decide ((D : Int) + 1 ≤ a) = true := decide_eq_true (by omega)
      have q1' : decide (D + 1 ≤ a) = true := decide_eq_true (by omega)
      have q1'' : decide (D < a) = true := decide_eq_true (by omega)
      have q2 : decide ((D : Int) + 1 ≤ 32768) = true := decide_eq_true (by omega)
      have q2' : decide (D + 1 ≤ 32768) = true := decide_eq_true (by omega)
      have q2'' : decide (D < 32768) = true := decide_eq_true (by omega)
      obtain ⟨E, hE⟩ : ∃ E, D + 1 = E := ⟨_, rfl⟩
      have hE' : (D : Int) + 1 = E := by omega
      rw [hE] at HS q1' q2'
      rw [hE'] at q1 q2 ⊢
      go_wp2_with fail
      go_loopw [7] (fun i wq => ∃ j : Nat, j ≤ M ∧ i = .int .i64 j ∧ (∀ k, k < j → sameB bs a E k = true) ∧ Whole wq (w.heap.size + 1) 29 #[.int .u8 tl, .int .i64 tm, .int .i64 td] ∧ Whole wq w.heap.size 29 #[.int .u8 0, .int .i64 0, .int .i64 0] ∧ Below w.heap.size w wq) (fun i _ => M - (intOf i).toNat)
      case atStart => exact ⟨0, Nat.zero_le _, rfl, fun k hk => absurd hk (by omega), HV.out, HW.out, HBel.out⟩
      case round =>
        obtain ⟨j, hj, rfl, hall, hV, hW, hbel⟩ := hrel
        have v1 : wr.cell? ⟨w.heap.size + 1, 1, none⟩ = some (.int .i64 tm) := hV.cell 1
        have v0 : wr.cell? ⟨w.heap.size + 1, 0, none⟩ = some (.int .u8 tl) := hV.cell 0
        have v2 : wr.cell? ⟨w.heap.size + 1, 2, none⟩ = some (.int .i64 td) := hV.cell 2
        have z0 := hV.frozen 0
        have z1 := hV.frozen 1
        have z2 := hV.frozen 2
        have HALL := Lib.hid hall
        have HV := Lib.hid hV
        have HW := Lib.hid hW
        have HBel := Lib.hid hbel
        have HCr : Hid (∀ k, k < n → wr.cell? ⟨b, o + k, none⟩ = some (.int .u8 (bs.getD k 0 : Nat))) := Lib.hid (fun k hk => (hbel.cell (p := ⟨b, o + k, none⟩) hbw).trans (HC.out k hk))
        clear hall hV hW hbel
        have waj : IntKind.i64.wrap ((a : Int) + j) = (a : Int) + j := IntWalk.i64_in _ (by omega)
        by_cases hjM : j < M
        · obtain ⟨u, hu⟩ : ∃ u, a + j - E = u := ⟨_, rfl⟩
          have x1 := HCr.out u (by omega)
          have y1 := HCr.out (a + j) (by omega)
          have hsm : sameB bs a E j = decide (bs.getD (a + j) 0 = bs.getD u 0) := by rw [← hu]; rfl
          obtain ⟨x, hx⟩ : ∃ x, bs.getD u 0 = x := ⟨_, rfl⟩
          obtain ⟨y, hy⟩ : ∃ y, bs.getD (a + j) 0 = y := ⟨_, rfl⟩
          rw [hx] at x1 hsm
          rw [hy] at y1 hsm
          have wu : (a : Int) + j - E = u := by omega
          have wu2 : IntKind.i64.wrap (u : Int) = u := IntWalk.i64_in _ (by omega)
          have u0 : (0 : Int) ≤ u := by omega
          have u2 : (u : Int) < n := by omega
          have y0 : (0 : Int) ≤ (a : Int) + j := by omega
          have y2 : (a : Int) + j < n := by omega
          have ey : ((a : Int) + j).toNat = a + j := by omega
          have eg1 : decide ((a : Int) + j < n) = true := decide_eq_true (by omega)
          have eg1' : decide (a + j < n) = true := decide_eq_true (by omega)
          have eg2 : decide ((j : Int) < 258) = true := decide_eq_true (by omega)
          have eg2' : decide (j < 258) = true := decide_eq_true (by omega)
          clear hx hy
          by_cases hxy : y = x
          · have exy : ((y : Int) == x) = true := by subst hxy; simp
            have exy' : (y == x) = true := by subst hxy; simp
            have HSM : Hid (sameB bs a E j = true) := Lib.hid (by rw [hsm]; exact decide_eq_true hxy)
            clear hsm hxy
            go_wp2_with fail
            go_quiet (fail)
            go_wp2_with fail
            go_roundw
            case rel => exact ⟨j + 1, by omega, by go_num, fun k hk => by
              by_cases hkj : k = j
              · subst hkj; exact HSM.out
              · exact HALL.out k (by omega), HV.out.drewN nq, HW.out.drewN nq, below_drewN HBel.out nq⟩
            case measure => simp [intOf]; omega
          · have exy : ((y : Int) == x) = false := by simp; omega
            have exy' : (y == x) = false := by simpa using hxy
            have HE : Hid (j = mostAt bs a ∨ sameB bs a E j = false) := Lib.hid (.inr (by rw [hsm]; exact decide_eq_false hxy))
            clear hsm hxy
            have hml : mlen bs a E = j := upto_eq (by rw [HM.out]; omega) HALL.out (HE.out)
            have hTT : bestT bs a E = if 3 ≤ j ∧ tm < j then ⟨0, j, E⟩ else ⟨tl, tm, td⟩ := by rw [HS.out]; unfold longerT; rw [hml]
            by_cases h3 : j < 3
            · have HT : Hid (bestT bs a E = ⟨tl, tm, td⟩) := Lib.hid (by rw [hTT, if_neg (by omega)])
              have d3 : decide (3 ≤ (j : Int)) = false := decide_eq_false (by omega)
              have d3' : decide (3 ≤ j) = false := decide_eq_false (by omega)
              clear hTT hml
              go_wp2_with fail
              go_quiet (fail)
              go_wp2_with fail
              go_roundw
              case rel => exact ⟨E, by omega, by go_num, by rw [HT.out]; exact HV.out.drewN nq, HW.out.drewN nq, below_drewN HBel.out nq⟩
              case measure => simp [intOf]; omega
            · have d3 : decide (3 ≤ (j : Int)) = true := decide_eq_true (by omega)
              have d3' : decide (3 ≤ j) = true := decide_eq_true (by omega)
              by_cases h4 : (j : Int) ≤ tm
              · have HT : Hid (bestT bs a E = ⟨tl, tm, td⟩) := Lib.hid (by rw [hTT, if_neg (by omega)])
                have d4 : decide (tm < (j : Int)) = false := decide_eq_false (by omega)
                clear hTT hml
                go_wp2_with fail
                go_quiet (fail)
                go_wp2_with fail
                go_roundw
                case rel => exact ⟨E, by omega, by go_num, by rw [HT.out]; exact HV.out.drewN nq, HW.out.drewN nq, below_drewN HBel.out nq⟩
                case measure => simp [intOf]; omega
              · have HT : Hid (bestT bs a E = ⟨0, j, E⟩) := Lib.hid (by rw [hTT, if_pos (by omega)])
                have d4 : decide (tm < (j : Int)) = true := decide_eq_true (by omega)
                clear hTT hml
                go_wp2_with fail
                go_quiet (fail)
                go_wp2_with fail
                go_roundw
                case rel => exact ⟨E, by omega, by go_num, by rw [HT.out]; exact (HV.out.drewN nq).put3 _ _ _, ((((HW.out.drewN nq).far (p := ⟨w.heap.size + 1, 0, none⟩) (by simp) _).far (p := ⟨w.heap.size + 1, 1, none⟩) (by simp) _).far (p := ⟨w.heap.size + 1, 2, none⟩) (by simp) _), below_put3 (below_drewN HBel.out nq) (by omega) _ _ _⟩
                case measure => simp [intOf]; omega
        · obtain rfl : j = M := by omega
          have HE : Hid (j = mostAt bs a ∨ sameB bs a E j = false) := Lib.hid (.inl HM.out.symm)
          by_cases hend : a + j < n
          · have eg1 : decide ((a : Int) + j < n) = true := decide_eq_true (by omega)
            have eg1' : decide (a + j < n) = true := decide_eq_true (by omega)
            have eg2 : decide ((j : Int) < 258) = false := decide_eq_false (by omega)
            have eg2' : decide (j < 258) = false := decide_eq_false (by omega)
            have hml : mlen bs a E = j := upto_eq (by rw [HM.out]; omega) HALL.out (HE.out)
            have hTT : bestT bs a E = if 3 ≤ j ∧ tm < j then ⟨0, j, E⟩ else ⟨tl, tm, td⟩ := by rw [HS.out]; unfold longerT; rw [hml]
            by_cases h3 : j < 3
            · have HT : Hid (bestT bs a E = ⟨tl, tm, td⟩) := Lib.hid (by rw [hTT, if_neg (by omega)])
              have d3 : decide (3 ≤ (j : Int)) = false := decide_eq_false (by omega)
              have d3' : decide (3 ≤ j) = false := decide_eq_false (by omega)
              clear hTT hml
              go_wp2_with fail
              go_quiet (fail)
              go_wp2_with fail
              go_roundw
              case rel => exact ⟨E, by omega, by go_num, by rw [HT.out]; exact HV.out.drewN nq, HW.out.drewN nq, below_drewN HBel.out nq⟩
              case measure => simp [intOf]; omega
            · have d3 : decide (3 ≤ (j : Int)) = true := decide_eq_true (by omega)
              have d3' : decide (3 ≤ j) = true := decide_eq_true (by omega)
              by_cases h4 : (j : Int) ≤ tm
              · have HT : Hid (bestT bs a E = ⟨tl, tm, td⟩) := Lib.hid (by rw [hTT, if_neg (by omega)])
                have d4 : decide (tm < (j : Int)) = false := decide_eq_false (by omega)
                clear hTT hml
                go_wp2_with fail
                go_quiet (fail)
                go_wp2_with fail
                go_roundw
                case rel => exact ⟨E, by omega, by go_num, by rw [HT.out]; exact HV.out.drewN nq, HW.out.drewN nq, below_drewN HBel.out nq⟩
                case measure => simp [intOf]; omega
              · have HT : Hid (bestT bs a E = ⟨0, j, E⟩) := Lib.hid (by rw [hTT, if_pos (by omega)])
                have d4 : decide (tm < (j : Int)) = true := decide_eq_true (by omega)
                clear hTT hml
                go_wp2_with fail
                go_quiet (fail)
                go_wp2_with fail
                go_roundw
                case rel => exact ⟨E, by omega, by go_num, by rw [HT.out]; exact (HV.out.drewN nq).put3 _ _ _, ((((HW.out.drewN nq).far (p := ⟨w.heap.size + 1, 0, none⟩) (by simp) _).far (p := ⟨w.heap.size + 1, 1, none⟩) (by simp) _).far (p := ⟨w.heap.size + 1, 2, none⟩) (by simp) _), below_put3 (below_drewN HBel.out nq) (by omega) _ _ _⟩
                case measure => simp [intOf]; omega
          · have eg1 : decide ((a : Int) + j < n) = false := decide_eq_false (by omega)
            have eg1' : decide (a + j < n) = false := decide_eq_false (by omega)
            have hml : mlen bs a E = j := upto_eq (by rw [HM.out]; omega) HALL.out (HE.out)
            have hTT : bestT bs a E = if 3 ≤ j ∧ tm < j then ⟨0, j, E⟩ else ⟨tl, tm, td⟩ := by rw [HS.out]; unfold longerT; rw [hml]
            by_cases h3 : j < 3
            · have HT : Hid (bestT bs a E = ⟨tl, tm, td⟩) := Lib.hid (by rw [hTT, if_neg (by omega)])
              have d3 : decide (3 ≤ (j : Int)) = false := decide_eq_false (by omega)
              have d3' : decide (3 ≤ j) = false := decide_eq_false (by omega)
              clear hTT hml
              go_wp2_with fail
              go_quiet (fail)
              go_wp2_with fail
              go_roundw
              case rel => exact ⟨E, by omega, by go_num, by rw [HT.out]; exact HV.out.drewN nq, HW.out.drewN nq, below_drewN HBel.out nq⟩
              case measure => simp [intOf]; omega
            · have d3 : decide (3 ≤ (j : Int)) = true := decide_eq_true (by omega)
              have d3' : decide (3 ≤ j) = true := decide_eq_true (by omega)
              by_cases h4 : (j : Int) ≤ tm
              · have HT : Hid (bestT bs a E = ⟨tl, tm, td⟩) := Lib.hid (by rw [hTT, if_neg (by omega)])
                have d4 : decide (tm < (j : Int)) = false := decide_eq_false (by omega)
                clear hTT hml
                go_wp2_with fail
                go_quiet (fail)
                go_wp2_with fail
                go_roundw
                case rel => exact ⟨E, by omega, by go_num, by rw [HT.out]; exact HV.out.drewN nq, HW.out.drewN nq, below_drewN HBel.out nq⟩
                case measure => simp [intOf]; omega
              · have HT : Hid (bestT bs a E = ⟨0, j, E⟩) := Lib.hid (by rw [hTT, if_pos (by omega)])
                have d4 : decide (tm < (j : Int)) = true := decide_eq_true (by omega)
                clear hTT hml
                go_wp2_with fail
                go_quiet (fail)
                go_wp2_with fail
                go_roundw
                case rel => exact ⟨E, by omega, by go_num, by rw [HT.out]; exact (HV.out.drewN nq).put3 _ _ _, ((((HW.out.drewN nq).far (p := ⟨w.heap.size + 1, 0, none⟩) (by simp) _).far (p := ⟨w.heap.size + 1, 1, none⟩) (by simp) _).far (p := ⟨w.heap.size + 1, 2, none⟩) (by simp) _), below_put3 (below_drewN HBel.out nq) (by omega) _ _ _⟩
                case measure => simp [intOf]; omega
    · obtain rfl : D = F := by omega
      have HV := Lib.hid hV; have HW := Lib.hid hW; have HBel := Lib.hid hbel
      have v1 : wr.cell? ⟨w.heap.size + 1, 1, none⟩ = some (.int .i64 (bestT bs a D).len) := hV.cell 1
      have v0 : wr.cell? ⟨w.heap.size + 1, 0, none⟩ = some (.int .u8 (bestT bs a D).lit) := hV.cell 0
      have v2 : wr.cell? ⟨w.heap.size + 1, 2, none⟩ = some (.int .i64 (bestT bs a D).dist) := hV.cell 2
      have z0 := hW.frozen 0
      have z1 := hW.frozen 1
      have z2 := hW.frozen 2
      have c0 : wr.cell? ⟨w.heap.size, 1, none⟩ = some (.int .i64 0) := hW.cell 1
      have c1 : wr.cell? ⟨w.heap.size, 0, none⟩ = some (.int .u8 0) := hW.cell 0
      have c2 : wr.cell? ⟨w.heap.size, 2, none⟩ = some (.int .i64 0) := hW.cell 2
      obtain ⟨T, hT⟩ : ∃ T, bestT bs a D = T := ⟨_, rfl⟩
      rw [hT] at v0 v1 v2 ⊢
      obtain ⟨tl, tm, td⟩ := T
      simp only at v0 v1 v2
      have HT := Lib.hid hT
      clear hV hW hbel hT
      by_cases hDa : a < 32768
      · have q1 : decide ((D : Int) + 1 ≤ a) = false := decide_eq_false (by omega)
        have q1' : decide (D + 1 ≤ a) = false := decide_eq_false (by omega)
        have q1'' : decide (D < a) = false := decide_eq_false (by omega)
        go_wp2_with fail
        refine bodyPost_ret (v := tokV ⟨tl, tm, td⟩) (results_cell_row (p := 4) (ty := 29) rfl _ _ w.heap.size 29 #[.int .u8 tl, .int .i64 tm, .int .i64 td] (0, 0) _ rfl (HW.out.put3 _ _ _) Try.underlying29 rfl tok_size) rfl ⟨by rw [HT.out], below_put3 HBel.out (by omega) _ _ _⟩
      · have q2 : decide ((D : Int) + 1 ≤ 32768) = false := decide_eq_false (by omega)
        have q2' : decide (D + 1 ≤ 32768) = false := decide_eq_false (by omega)
        have q2'' : decide (D < 32768) = false := decide_eq_false (by omega)
        by_cases hDb : D + 1 ≤ a
        · have q1 : decide ((D : Int) + 1 ≤ a) = true := decide_eq_true (by omega)
          have q1' : decide (D + 1 ≤ a) = true := decide_eq_true (by omega)
          have q1'' : decide (D < a) = true := decide_eq_true (by omega)
          go_wp2_with fail
          refine bodyPost_ret (v := tokV ⟨tl, tm, td⟩) (results_cell_row (p := 4) (ty := 29) rfl _ _ w.heap.size 29 #[.int .u8 tl, .int .i64 tm, .int .i64 td] (0, 0) _ rfl (HW.out.put3 _ _ _) Try.underlying29 rfl tok_size) rfl ⟨by rw [HT.out], below_put3 HBel.out (by omega) _ _ _⟩
        · have q1 : decide ((D : Int) + 1 ≤ a) = false := decide_eq_false (by omega)
          have q1' : decide (D + 1 ≤ a) = false := decide_eq_false (by omega)
          have q1'' : decide (D < a) = false := decide_eq_false (by omega)
          go_wp2_with fail
          refine bodyPost_ret (v := tokV ⟨tl, tm, td⟩) (results_cell_row (p := 4) (ty := 29) rfl _ _ w.heap.size 29 #[.int .u8 tl, .int .i64 tm, .int .i64 td] (0, 0) _ rfl (HW.out.put3 _ _ _) Try.underlying29 rfl tok_size) rfl ⟨by rw [HT.out], below_put3 HBel.out (by omega) _ _ _⟩

theorem rfind_any (A : Option Addr) (n c B : Nat) (bs : List Nat) (hb : bs.length = n) (hn : n ≤ 100000) (x : Int) (w : World) (hs : Seen w B 1 A n c (bx bs)) (hB : B ≤ w.heap.size) :
    Calls Try.prog 13 #[.slice A n c, .int .i64 x] w (Gives w (tokV (findT bs x))) := by
  by_cases h : x < 0 ∨ (n : Int) ≤ x
  · have e : findT bs x = ⟨0, 0, 0⟩ := by unfold findT; rw [if_pos (by rw [hb]; exact h)]
    rw [e]
    exact rfind_out A n c x h w
  · have e : findT bs x = bestT bs x.toNat (min x.toNat 32768) := by unfold findT; rw [if_neg (by rw [hb]; exact h)]
    rw [e]
    obtain ⟨a, rfl⟩ := Int.eq_ofNat_of_zero_le (show 0 ≤ x by omega)
    exact rfind_in A n c B bs hb hn a (by omega) w hs hB
end Go.Proofs.Ythlgceeldnhhbaa
