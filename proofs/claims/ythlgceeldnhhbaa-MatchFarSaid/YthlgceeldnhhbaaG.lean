/-
  The contract of longer. Conditions: the bytes are read as told (Seen), at most 100000 of them; the places are within.
-/
import Derived.Test.YthlgceeldnhhbaaC
import Derived.BigQuiet
namespace Go.Proofs.Ythlgceeldnhhbaa
open Go.RowKit
set_option maxRecDepth 100000

theorem same_at {bs : List Nat} {a p d j : Nat} (hp : p < a) (hd : a - p = d) : sameB bs a d j = decide (bs.getD (a + j) 0 = bs.getD (p + j) 0) := by
  unfold sameB
  rw [show a + j - d = p + j by omega]

theorem below_drewN {B : Nat} {u w : World} (h : Below B u w) (n : Nat) : Below B u (w.drewN n) := ⟨h.os, h.tape, h.output, h.size, h.block⟩
theorem tok_size : (Try.prog.info? 29).map (·.size) = some 3 := by kernel_rfl

theorem Whole.put3 {w : World} {g : Nat} {t : TypeId} {x0 x1 x2 : Value} (h : Whole w g t #[x0, x1, x2]) (a b c : Value) : Whole (((w.setCell ⟨g, 0, none⟩ a).setCell ⟨g, 1, none⟩ b).setCell ⟨g, 2, none⟩ c) g t #[a, b, c] := by
  simpa using ((h.put 0 a).put 1 b).put 2 c
theorem below_put3 {B : Nat} {u w : World} (h : Below B u w) {g : Nat} (hg : B ≤ g) (a b c : Value) : Below B u (((w.setCell ⟨g, 0, none⟩ a).setCell ⟨g, 1, none⟩ b).setCell ⟨g, 2, none⟩ c) :=
  ((h.setCell (p := ⟨g, 0, none⟩) hg a).setCell (p := ⟨g, 1, none⟩) hg b).setCell (p := ⟨g, 2, none⟩) hg c

set_option maxHeartbeats 8000000 in
theorem longer_any (A : Option Addr) (n c B : Nat) (bs : List Nat) (hb : bs.length = n) (hn : n ≤ 100000) (a p d : Nat) (hd : a - p = d) (h1 : p < a) (h2 : a < n) (tl m : Nat) (td : Int) (w : World) (hs : Seen w B 1 A n c (bx bs)) (hB : B ≤ w.heap.size) :
    Calls Try.prog 18 #[.slice A n c, .int .i64 a, .int .i64 p, .agg #[.int .u8 tl, .int .i64 m, .int .i64 td]] w (Gives w (tokV (longerT bs a d ⟨tl, m, td⟩))) := by
  obtain ⟨b, o, rfl, hbB, hcell⟩ := hs.bytes hb (by omega)
  have hbw : b < w.heap.size := by omega
  have HC := Lib.hid hcell; clear hcell hs
  obtain ⟨M, hM⟩ : ∃ M, mostAt bs a = M := ⟨_, rfl⟩
  have hM' := hM
  unfold mostAt at hM'
  rw [hb] at hM'
  have em : (if (258 : Int) < (n : Int) - a then (258 : Int) else (n : Int) - a) = M := by split <;> omega
  have em2 : (if (n : Int) - a < 258 then (n : Int) - a else (258 : Int)) = M := by split <;> omega
  obtain ⟨T, hT⟩ : ∃ T, longerT bs a d ⟨tl, m, td⟩ = T := ⟨_, rfl⟩
  rw [hT]
  have HT := Lib.hid hT; clear hT
  have HM := Lib.hid hM; clear hM
  have W0 : Hid (Whole ((w.alloc (.cells #[.int .u8 tl, .int .i64 m, .int .i64 td] 29)).alloc (.cells #[.int .u8 0, .int .i64 0, .int .i64 0] 29)) (w.heap.size + 1) 29 #[.int .u8 0, .int .i64 0, .int .i64 0]) := Lib.hid (by simpa using Whole.new (w.alloc (.cells #[.int .u8 tl, .int .i64 m, .int .i64 td] 29)) 29 #[.int .u8 0, .int .i64 0, .int .i64 0])
  have V0 : Hid (Whole ((w.alloc (.cells #[.int .u8 tl, .int .i64 m, .int .i64 td] 29)).alloc (.cells #[.int .u8 0, .int .i64 0, .int .i64 0] 29)) w.heap.size 29 #[.int .u8 tl, .int .i64 m, .int .i64 td]) := Lib.hid ((Whole.new w 29 _).alloc _)
  have BD : Hid (Below w.heap.size w ((w.alloc (.cells #[.int .u8 tl, .int .i64 m, .int .i64 td] 29)).alloc (.cells #[.int .u8 0, .int .i64 0, .int .i64 0] 29))) := Lib.hid (((Below.refl _ _).alloc (Nat.le_refl _) _).alloc (by simp) _)
  by_cases hq : M ≤ m
  · have e : T = ⟨tl, m, td⟩ := by rw [← HT.out]; exact longer_no rfl (.inl (by rw [HM.out]; exact hq))
    subst e
    have dq : decide ((M : Int) ≤ m) = true := decide_eq_true (by omega)
    have dq' : decide (M ≤ m) = true := decide_eq_true (by omega)
    clear hq hM'
    go_enter Try.func18, Try.ntmps18
    go_wp2_with fail
    go_quiet (fail)
    go_wp2_with fail
    have hW : Whole (((w.alloc (.cells #[.int .u8 tl, .int .i64 m, .int .i64 td] 29)).alloc (.cells #[.int .u8 0, .int .i64 0, .int .i64 0] 29)).drewN nq) (w.heap.size + 1) 29 #[.int .u8 0, .int .i64 0, .int .i64 0] := W0.out
    refine bodyPost_ret (v := tokV ⟨tl, m, td⟩) (results_cell_row (p := 8) (ty := 29) rfl _ _ (w.heap.size + 1) 29 #[.int .u8 tl, .int .i64 m, .int .i64 td] (0, 0) _ rfl (hW.put3 _ _ _) Try.underlying29 rfl tok_size) rfl ⟨rfl, below_put3 (below_drewN BD.out nq) (by omega) _ _ _⟩
  · have hq' : m < M := by omega
    have dq : decide ((M : Int) ≤ m) = false := decide_eq_false (by omega)
    have dq' : decide (M ≤ m) = false := decide_eq_false (by omega)
    have x1 := HC.out (p + m) (by omega)
    have y1 := HC.out (a + m) (by omega)
    obtain ⟨x, hx⟩ : ∃ x, bs.getD (p + m) 0 = x := ⟨_, rfl⟩
    obtain ⟨y, hy⟩ : ∃ y, bs.getD (a + m) 0 = y := ⟨_, rfl⟩
    rw [hx] at x1
    rw [hy] at y1
    have hne1 : w.heap.size ≠ b := by omega
    have hne2 : w.heap.size + 1 ≠ b := by omega
    have wx : IntKind.i64.wrap ((p : Int) + m) = (p : Int) + m := IntWalk.i64_in _ (by omega)
    have wy : IntKind.i64.wrap ((a : Int) + m) = (a : Int) + m := IntWalk.i64_in _ (by omega)
    have x0 : (0 : Int) ≤ (p : Int) + m := by omega
    have x2 : (p : Int) + m < n := by omega
    have y0 : (0 : Int) ≤ (a : Int) + m := by omega
    have y2 : (a : Int) + m < n := by omega
    have ex : ((p : Int) + m).toNat = p + m := by omega
    have ey : ((a : Int) + m).toNat = a + m := by omega
    by_cases hxy : x = y
    · have dxy : ((x : Int) != y) = false := by subst hxy; simp
      have dxy' : (x != y) = false := by subst hxy; simp
      have HX := Lib.hid hx; have HY := Lib.hid hy; clear hx hy hxy
      go_enter Try.func18, Try.ntmps18
      go_wp2_with fail
      go_quiet (fail)
      go_wp2_with fail
      go_loopw [10] (fun i wr => ∃ j : Nat, j ≤ M ∧ i = .int .i64 j ∧ (∀ k, k < j → sameB bs a d k = true) ∧ Whole wr w.heap.size 29 #[.int .u8 tl, .int .i64 m, .int .i64 td] ∧ Whole wr (w.heap.size + 1) 29 #[.int .u8 0, .int .i64 0, .int .i64 0] ∧ Below w.heap.size w wr) (fun i _ => M - (intOf i).toNat)
      case atStart => exact ⟨0, Nat.zero_le _, rfl, fun k hk => absurd hk (by omega), V0.out, W0.out, below_drewN BD.out nq⟩
      case round =>
        obtain ⟨j, hj, rfl, hall, hV, hW, hbel⟩ := hrel
        have v1 : wr.cell? ⟨w.heap.size, 1, none⟩ = some (.int .i64 m) := hV.cell 1
        have v0 : wr.cell? ⟨w.heap.size, 0, none⟩ = some (.int .u8 tl) := hV.cell 0
        have v2 : wr.cell? ⟨w.heap.size, 2, none⟩ = some (.int .i64 td) := hV.cell 2
        have z0 := hW.frozen 0
        have z1 := hW.frozen 1
        have z2 := hW.frozen 2
        have y0' : wr.cell? ⟨w.heap.size + 1, 0, none⟩ = some (.int .u8 0) := hW.cell 0
        have y1' : wr.cell? ⟨w.heap.size + 1, 1, none⟩ = some (.int .i64 0) := hW.cell 1
        have y2' : wr.cell? ⟨w.heap.size + 1, 2, none⟩ = some (.int .i64 0) := hW.cell 2
        have HALL := Lib.hid hall
        have HV := Lib.hid hV
        have HW := Lib.hid hW
        have HBel := Lib.hid hbel
        have HCr : Hid (∀ k, k < n → wr.cell? ⟨b, o + k, none⟩ = some (.int .u8 (bs.getD k 0 : Nat))) := Lib.hid (fun k hk => (hbel.cell (p := ⟨b, o + k, none⟩) hbw).trans (HC.out k hk))
        clear hall hV hW hbel
        by_cases hjM : j < M
        · have x1j := HCr.out (p + j) (by omega)
          have y1j := HCr.out (a + j) (by omega)
          have hsm : sameB bs a d j = decide (bs.getD (a + j) 0 = bs.getD (p + j) 0) := same_at h1 hd
          obtain ⟨xj, hxj⟩ : ∃ x, bs.getD (p + j) 0 = x := ⟨_, rfl⟩
          obtain ⟨yj, hyj⟩ : ∃ y, bs.getD (a + j) 0 = y := ⟨_, rfl⟩
          rw [hxj] at x1j hsm
          rw [hyj] at y1j hsm
          have wxj : IntKind.i64.wrap ((p : Int) + j) = (p : Int) + j := IntWalk.i64_in _ (by omega)
          have wyj : IntKind.i64.wrap ((a : Int) + j) = (a : Int) + j := IntWalk.i64_in _ (by omega)
          have x0j : (0 : Int) ≤ (p : Int) + j := by omega
          have x2j : (p : Int) + j < n := by omega
          have y0j : (0 : Int) ≤ (a : Int) + j := by omega
          have y2j : (a : Int) + j < n := by omega
          have exj : ((p : Int) + j).toNat = p + j := by omega
          have eyj : ((a : Int) + j).toNat = a + j := by omega
          have dM : decide ((j : Int) < M) = true := decide_eq_true (by omega)
          have dM' : decide (j < M) = true := decide_eq_true (by omega)
          clear hxj hyj
          by_cases hxyj : xj = yj
          · have exy : ((xj : Int) == yj) = true := by subst hxyj; simp
            have exy' : (xj == yj) = true := by subst hxyj; simp
            have HSM : Hid (sameB bs a d j = true) := Lib.hid (by rw [hsm]; exact decide_eq_true hxyj.symm)
            clear hsm hxyj
            go_wp2_with fail
            go_quiet (fail)
            go_wp2_with fail
            go_roundw
            case rel => exact ⟨j + 1, by omega, by go_num, fun k hk => by
              by_cases hkj : k = j
              · subst hkj; exact HSM.out
              · exact HALL.out k (by omega), HV.out.drewN nq, HW.out.drewN nq, below_drewN HBel.out nq⟩
            case measure => simp [intOf]; omega
          · have exy : ((xj : Int) == yj) = false := by simp; omega
            have exy' : (xj == yj) = false := by simpa using hxyj
            have HE : Hid (j = mostAt bs a ∨ sameB bs a d j = false) := Lib.hid (.inr (by rw [hsm]; exact decide_eq_false (fun e => hxyj e.symm)))
            clear hsm hxyj
            have hml : mlen bs a d = j := upto_eq (by rw [HM.out]; omega) HALL.out (HE.out)
            have hTT : T = if 3 ≤ j ∧ (m : Int) < j then ⟨0, j, d⟩ else ⟨tl, m, td⟩ := by rw [← HT.out]; unfold longerT; rw [hml]
            by_cases h3 : j < 3
            · have eT : T = ⟨tl, m, td⟩ := by rw [hTT, if_neg (by omega)]
              subst eT
              have d3 : decide ((j : Int) < 3) = true := decide_eq_true (by omega)
              have d3' : decide (j < 3) = true := decide_eq_true (by omega)
              clear hTT hml
              go_wp2_with fail
              go_quiet (fail)
              go_wp2_with fail
              refine bodyPost_ret (v := tokV ⟨tl, m, td⟩) (results_cell_row (p := 8) (ty := 29) rfl _ _ (w.heap.size + 1) 29 #[.int .u8 tl, .int .i64 m, .int .i64 td] (0, 0) _ rfl ((HW.out.drewN nq).put3 _ _ _) Try.underlying29 rfl tok_size) rfl ⟨rfl, below_put3 (below_drewN HBel.out nq) (by omega) _ _ _⟩
            · have d3 : decide ((j : Int) < 3) = false := decide_eq_false (by omega)
              have d3' : decide (j < 3) = false := decide_eq_false (by omega)
              by_cases h4 : j ≤ m
              · have eT : T = ⟨tl, m, td⟩ := by rw [hTT, if_neg (by omega)]
                subst eT
                have d4 : decide ((j : Int) ≤ m) = true := decide_eq_true (by omega)
                have d4' : decide (j ≤ m) = true := decide_eq_true (by omega)
                clear hTT hml
                go_wp2_with fail
                go_quiet (fail)
                go_wp2_with fail
                refine bodyPost_ret (v := tokV ⟨tl, m, td⟩) (results_cell_row (p := 8) (ty := 29) rfl _ _ (w.heap.size + 1) 29 #[.int .u8 tl, .int .i64 m, .int .i64 td] (0, 0) _ rfl ((HW.out.drewN nq).put3 _ _ _) Try.underlying29 rfl tok_size) rfl ⟨rfl, below_put3 (below_drewN HBel.out nq) (by omega) _ _ _⟩
              · have eT : T = ⟨0, j, d⟩ := by rw [hTT, if_pos (by omega)]
                subst eT
                have d4 : decide ((j : Int) ≤ m) = false := decide_eq_false (by omega)
                have d4' : decide (j ≤ m) = false := decide_eq_false (by omega)
                have ed : (a : Int) - p = d := by omega
                clear hTT hml
                go_wp2_with fail
                go_quiet (fail)
                go_wp2_with fail
                refine bodyPost_ret (v := tokV ⟨0, j, d⟩) (results_cell_row (p := 8) (ty := 29) rfl _ _ (w.heap.size + 1) 29 #[.int .u8 0, .int .i64 j, .int .i64 d] (0, 0) _ rfl ((HW.out.drewN nq).put3 _ _ _) Try.underlying29 rfl tok_size) rfl ⟨rfl, below_put3 (below_drewN HBel.out nq) (by omega) _ _ _⟩
        · obtain rfl : j = M := by omega
          have HE : Hid (j = mostAt bs a ∨ sameB bs a d j = false) := Lib.hid (.inl HM.out.symm)
          have hml : mlen bs a d = j := upto_eq (by rw [HM.out]; omega) HALL.out (HE.out)
          have hTT : T = if 3 ≤ j ∧ (m : Int) < j then ⟨0, j, d⟩ else ⟨tl, m, td⟩ := by rw [← HT.out]; unfold longerT; rw [hml]
          by_cases h3 : j < 3
          · have eT : T = ⟨tl, m, td⟩ := by rw [hTT, if_neg (by omega)]
            subst eT
            have d3 : decide ((j : Int) < 3) = true := decide_eq_true (by omega)
            have d3' : decide (j < 3) = true := decide_eq_true (by omega)
            clear hTT hml
            go_wp2_with fail
            go_quiet (fail)
            go_wp2_with fail
            refine bodyPost_ret (v := tokV ⟨tl, m, td⟩) (results_cell_row (p := 8) (ty := 29) rfl _ _ (w.heap.size + 1) 29 #[.int .u8 tl, .int .i64 m, .int .i64 td] (0, 0) _ rfl ((HW.out.drewN nq).put3 _ _ _) Try.underlying29 rfl tok_size) rfl ⟨rfl, below_put3 (below_drewN HBel.out nq) (by omega) _ _ _⟩
          · have d3 : decide ((j : Int) < 3) = false := decide_eq_false (by omega)
            have d3' : decide (j < 3) = false := decide_eq_false (by omega)
            by_cases h4 : j ≤ m
            · exact absurd h4 (by omega)
            · have eT : T = ⟨0, j, d⟩ := by rw [hTT, if_pos (by omega)]
              subst eT
              have d4 : decide ((j : Int) ≤ m) = false := decide_eq_false (by omega)
              have d4' : decide (j ≤ m) = false := decide_eq_false (by omega)
              have ed : (a : Int) - p = d := by omega
              clear hTT hml
              go_wp2_with fail
              go_quiet (fail)
              go_wp2_with fail
              refine bodyPost_ret (v := tokV ⟨0, j, d⟩) (results_cell_row (p := 8) (ty := 29) rfl _ _ (w.heap.size + 1) 29 #[.int .u8 0, .int .i64 j, .int .i64 d] (0, 0) _ rfl ((HW.out.drewN nq).put3 _ _ _) Try.underlying29 rfl tok_size) rfl ⟨rfl, below_put3 (below_drewN HBel.out nq) (by omega) _ _ _⟩
    · have e : T = ⟨tl, m, td⟩ := by
        rw [← HT.out]
        refine longer_no rfl (.inr ?_)
        rw [same_at h1 hd, hx, hy]
        exact decide_eq_false (fun e => hxy e.symm)
      subst e
      have dxy : ((x : Int) != y) = true := by simp; omega
      have dxy' : (x != y) = true := by simp; omega
      have HX := Lib.hid hx; have HY := Lib.hid hy; clear hx hy hxy
      go_enter Try.func18, Try.ntmps18
      go_wp2_with fail
      go_quiet (fail)
      go_wp2_with fail
      have hW : Whole (((w.alloc (.cells #[.int .u8 tl, .int .i64 m, .int .i64 td] 29)).alloc (.cells #[.int .u8 0, .int .i64 0, .int .i64 0] 29)).drewN nq) (w.heap.size + 1) 29 #[.int .u8 0, .int .i64 0, .int .i64 0] := W0.out
      refine bodyPost_ret (v := tokV ⟨tl, m, td⟩) (results_cell_row (p := 8) (ty := 29) rfl _ _ (w.heap.size + 1) 29 #[.int .u8 tl, .int .i64 m, .int .i64 td] (0, 0) _ rfl (hW.put3 _ _ _) Try.underlying29 rfl tok_size) rfl ⟨rfl, below_put3 (below_drewN BD.out nq) (by omega) _ _ _⟩
end Go.Proofs.Ythlgceeldnhhbaa
