/-
  The contract of Find. Conditions: the bytes are read as told (Seen), at most 100000 of them.
-/
import Derived.Test.YthlgceeldnhhbaaG
namespace Go.Proofs.Ythlgceeldnhhbaa
open Go.RowKit
set_option maxRecDepth 100000

theorem best_len (bs : List Nat) (a : Nat) : ∀ D, ∃ m : Nat, (bestT bs a D).len = m
  | 0 => ⟨0, rfl⟩
  | D + 1 => by
    unfold bestT longerT
    split
    · exact ⟨_, rfl⟩
    · exact best_len bs a D

theorem find_out (A : Option Addr) (n c : Nat) (x : Int) (h : x < 0 ∨ (n : Int) ≤ x) (w : World) : Calls Try.prog 12 #[.slice A n c, .int .i64 x] w (Gives w (tokV ⟨0, 0, 0⟩)) := by
  have W0 : Hid (Whole (w.alloc (.cells #[.int .u8 0, .int .i64 0, .int .i64 0] 29)) w.heap.size 29 #[.int .u8 0, .int .i64 0, .int .i64 0]) := Lib.hid (Whole.new w 29 _)
  have BD : Hid (Below w.heap.size w (w.alloc (.cells #[.int .u8 0, .int .i64 0, .int .i64 0] 29))) := Lib.hid ((Below.refl _ _).alloc (Nat.le_refl _) _)
  by_cases h1 : x < 0
  · clear h
    go_enter Try.func12, Try.ntmps12
    go_wp2_with fail
    refine bodyPost_ret (v := tokV ⟨0, 0, 0⟩) (results_cell_row (p := 4) (ty := 29) rfl _ _ w.heap.size 29 #[.int .u8 0, .int .i64 0, .int .i64 0] (0, 0) _ rfl W0.out Try.underlying29 rfl tok_size) rfl ⟨rfl, BD.out⟩
  · have h2 : (n : Int) ≤ x := h.resolve_left h1
    clear h
    go_enter Try.func12, Try.ntmps12
    go_wp2_with fail
    refine bodyPost_ret (v := tokV ⟨0, 0, 0⟩) (results_cell_row (p := 4) (ty := 29) rfl _ _ w.heap.size 29 #[.int .u8 0, .int .i64 0, .int .i64 0] (0, 0) _ rfl W0.out Try.underlying29 rfl tok_size) rfl ⟨rfl, BD.out⟩

theorem farthest_nat (a f : Nat) (hf : a - 32768 = f) (ha : a ≤ 100000) (w : World) : Calls Try.prog 17 #[.int .i64 a] w fun e w' => e = .returned (.int .i64 f) ∧ w = w' := by
  have := farthest_any a (by omega) (by omega) w
  rwa [show max ((a : Int) - 32768) 0 = (f : Int) by omega] at this

set_option maxHeartbeats 2000000 in
theorem find_in (A : Option Addr) (n c B : Nat) (bs : List Nat) (hb : bs.length = n) (hn : n ≤ 100000) (a : Nat) (ha : a < n) (w : World) (hs : Seen w B 1 A n c (bx bs)) (hB : B ≤ w.heap.size) :
    Calls Try.prog 12 #[.slice A n c, .int .i64 a] w (Gives w (tokV (bestT bs a (min a 32768)))) := by
  obtain ⟨b, o, rfl, hbB, hcell⟩ := hs.bytes hb (by omega)
  have hbw : b < w.heap.size := by omega
  have xa := hcell a (by omega)
  have HS := Lib.hid hs; clear hcell hs
  obtain ⟨F, hF⟩ : ∃ F, min a 32768 = F := ⟨_, rfl⟩
  rw [hF]
  have hne : w.heap.size ≠ b := by omega
  obtain ⟨la, hla⟩ : ∃ x, bs.getD a 0 = x := ⟨_, rfl⟩
  rw [hla] at xa
  have HB0 : Hid (bestT bs a 0 = ⟨la, 0, 0⟩) := Lib.hid (by unfold bestT; rw [hla])
  clear hla
  have a0 : (0 : Int) ≤ a := by omega
  have V0 : Hid (Whole ((w.alloc (.cells #[.int .u8 0, .int .i64 0, .int .i64 0] 29)).alloc (.cells #[.int .u8 la, .int .i64 0, .int .i64 0] 29)) (w.heap.size + 1) 29 #[.int .u8 la, .int .i64 0, .int .i64 0]) := Lib.hid (by simpa using Whole.new (w.alloc (.cells #[.int .u8 0, .int .i64 0, .int .i64 0] 29)) 29 #[.int .u8 la, .int .i64 0, .int .i64 0])
  have W0 : Hid (Whole ((w.alloc (.cells #[.int .u8 0, .int .i64 0, .int .i64 0] 29)).alloc (.cells #[.int .u8 la, .int .i64 0, .int .i64 0] 29)) w.heap.size 29 #[.int .u8 0, .int .i64 0, .int .i64 0]) := Lib.hid ((Whole.new w 29 _).alloc _)
  have BD : Hid (Below w.heap.size w ((w.alloc (.cells #[.int .u8 0, .int .i64 0, .int .i64 0] 29)).alloc (.cells #[.int .u8 la, .int .i64 0, .int .i64 0] 29))) := Lib.hid (((Below.refl _ _).alloc (Nat.le_refl _) _).alloc (by simp) _)
  have d0 : decide ((a : Int) < 0) = false := decide_eq_false (by omega)
  have d1 : decide ((n : Int) ≤ a) = false := decide_eq_false (by omega)
  have d1' : decide (n ≤ a) = false := decide_eq_false (by omega)
  obtain ⟨f, hf⟩ : ∃ f, a - 32768 = f := ⟨_, rfl⟩
  have CF := Lib.hid (fun W => farthest_nat a f hf (by omega) W)
  go_enter Try.func12, Try.ntmps12
  go_wp2_with fail
  go_loopw [6] (fun i wr => ∃ D : Nat, D ≤ F ∧ i = .int .i64 ((a : Int) - 1 - D) ∧ Whole wr (w.heap.size + 1) 29 #[.int .u8 (bestT bs a D).lit, .int .i64 (bestT bs a D).len, .int .i64 (bestT bs a D).dist] ∧ Whole wr w.heap.size 29 #[.int .u8 0, .int .i64 0, .int .i64 0] ∧ Below w.heap.size w wr) (fun i _ => (intOf i + 1).toNat)
  case atStart => exact ⟨0, Nat.zero_le _, by simp, by rw [HB0.out]; exact V0.out, W0.out, BD.out⟩
  case round =>
    obtain ⟨D, hD, rfl, hV, hW, hbel⟩ := hrel
    by_cases hDF : D < F
    · obtain ⟨m, hm⟩ := best_len bs a D
      have HS1 : Hid (bestT bs a (D + 1) = longerT bs a (D + 1) (bestT bs a D)) := Lib.hid rfl
      obtain ⟨T, hT⟩ : ∃ T, bestT bs a D = T := ⟨_, rfl⟩
      rw [hT] at hV HS1 hm
      obtain ⟨tl, tm, td⟩ := T
      simp only at hV hm
      subst hm
      have v1 : wr.cell? ⟨w.heap.size + 1, 1, none⟩ = some (.int .i64 m) := hV.cell 1
      have v0 : wr.cell? ⟨w.heap.size + 1, 0, none⟩ = some (.int .u8 tl) := hV.cell 0
      have v2 : wr.cell? ⟨w.heap.size + 1, 2, none⟩ = some (.int .i64 td) := hV.cell 2
      obtain ⟨p, hp⟩ : ∃ p, a - 1 - D = p := ⟨_, rfl⟩
      have hp' : (a : Int) - 1 - D = p := by omega
      rw [hp']
      have e1 : decide ((f : Int) ≤ p) = true := decide_eq_true (by omega)
      have e1' : decide (f ≤ p) = true := decide_eq_true (by omega)
      have HV := Lib.hid hV; have HW := Lib.hid hW; have HBel := Lib.hid hbel
      have hsz := hbel.size
      clear hV hW hbel hT
      go_wp2_with fail
      refine (CF.out _).mono ?_; rintro e w1 ⟨rfl, rfl⟩
      go_wp2_with fail
      refine (longer_any _ n c B bs hb hn a p (D + 1) (by omega) (by omega) ha tl m td wr (HS.out.below (HBel.out.mono hB)) (by omega)).mono ?_
      rintro e w1 ⟨rfl, hb1⟩
      obtain ⟨T, hT⟩ : ∃ T, longerT bs a (D + 1) ⟨tl, m, td⟩ = T := ⟨_, rfl⟩
      rw [hT] at HS1 ⊢
      obtain ⟨ul, um, ud⟩ := T
      simp only [tokV]
      have hV1 := HV.out.only (Only.of_below hb1 Nob) (fun h => h)
      have hW1 := HW.out.only (Only.of_below hb1 Nob) (fun h => h)
      have z0 := hV1.frozen 0
      have z1 := hV1.frozen 1
      have z2 := hV1.frozen 2
      have y0 : w1.cell? ⟨w.heap.size + 1, 0, none⟩ = some (.int .u8 tl) := hV1.cell 0
      have y1 : w1.cell? ⟨w.heap.size + 1, 1, none⟩ = some (.int .i64 m) := hV1.cell 1
      have y2 : w1.cell? ⟨w.heap.size + 1, 2, none⟩ = some (.int .i64 td) := hV1.cell 2
      have HV1 := Lib.hid hV1; have HW1 := Lib.hid hW1
      have HB1 := Lib.hid (HBel.out.trans (hb1.mono hsz))
      have HT := Lib.hid hT
      clear hV1 hW1 hb1 hT
      go_wp2_with fail
      go_roundw
      case rel => exact ⟨D + 1, by omega, by go_num, by rw [HS1.out]; exact HV1.out.put3 _ _ _, (((HW1.out.far (p := ⟨w.heap.size + 1, 0, none⟩) (by simp) _).far (p := ⟨w.heap.size + 1, 1, none⟩) (by simp) _).far (p := ⟨w.heap.size + 1, 2, none⟩) (by simp) _), below_put3 HB1.out (by omega) _ _ _⟩
      case measure => simp [intOf]
    · obtain rfl : D = F := by omega
      have HV := Lib.hid hV; have HW := Lib.hid hW; have HBel := Lib.hid hbel
      have v1 : wr.cell? ⟨w.heap.size + 1, 1, none⟩ = some (.int .i64 (bestT bs a D).len) := hV.cell 1
      have v0 : wr.cell? ⟨w.heap.size + 1, 0, none⟩ = some (.int .u8 (bestT bs a D).lit) := hV.cell 0
      have v2 : wr.cell? ⟨w.heap.size + 1, 2, none⟩ = some (.int .i64 (bestT bs a D).dist) := hV.cell 2
      have z0 := hW.frozen 0
      have z1 := hW.frozen 1
      have z2 := hW.frozen 2
      have c0 : wr.cell? ⟨w.heap.size, 1, none⟩ = some (.int .i64 0) := hW.cell 1
      have c1 : wr.cell? ⟨w.heap.size, 0, none⟩ = some (.int .u8 0) := hW.cell 0
      have c2 : wr.cell? ⟨w.heap.size, 2, none⟩ = some (.int .i64 0) := hW.cell 2
      obtain ⟨T, hT⟩ : ∃ T, bestT bs a D = T := ⟨_, rfl⟩
      rw [hT] at v0 v1 v2 ⊢
      obtain ⟨tl, tm, td⟩ := T
      simp only at v0 v1 v2
      have HT := Lib.hid hT
      clear hV hW hbel hT
      obtain ⟨p, hp⟩ : ∃ p, (a : Int) - 1 - D = p := ⟨_, rfl⟩
      rw [hp]
      have e1 : decide ((f : Int) ≤ p) = false := decide_eq_false (by omega)
      go_wp2_with fail
      refine (CF.out _).mono ?_; rintro e w1 ⟨rfl, rfl⟩
      go_wp2_with fail
      refine bodyPost_ret (v := tokV ⟨tl, tm, td⟩) (results_cell_row (p := 4) (ty := 29) rfl _ _ w.heap.size 29 #[.int .u8 tl, .int .i64 tm, .int .i64 td] (0, 0) _ rfl (HW.out.put3 _ _ _) Try.underlying29 rfl tok_size) rfl ⟨by rw [HT.out], below_put3 HBel.out (by omega) _ _ _⟩

theorem find_any (A : Option Addr) (n c B : Nat) (bs : List Nat) (hb : bs.length = n) (hn : n ≤ 100000) (x : Int) (w : World) (hs : Seen w B 1 A n c (bx bs)) (hB : B ≤ w.heap.size) :
    Calls Try.prog 12 #[.slice A n c, .int .i64 x] w (Gives w (tokV (findT bs x))) := by
  by_cases h : x < 0 ∨ (n : Int) ≤ x
  · have e : findT bs x = ⟨0, 0, 0⟩ := by unfold findT; rw [if_pos (by rw [hb]; exact h)]
    rw [e]
    exact find_out A n c x h w
  · have e : findT bs x = bestT bs x.toNat (min x.toNat 32768) := by unfold findT; rw [if_neg (by rw [hb]; exact h)]
    rw [e]
    obtain ⟨a, rfl⟩ := Int.eq_ofNat_of_zero_le (show 0 ≤ x by omega)
    exact find_in A n c B bs hb hn a (by omega) w hs hB
end Go.Proofs.Ythlgceeldnhhbaa
