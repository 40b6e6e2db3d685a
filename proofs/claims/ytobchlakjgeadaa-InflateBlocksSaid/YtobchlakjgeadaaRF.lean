/-
  The document's fixed lengths. Conditions: none.
-/
import Derived.Test.YtobchlakjgeadaaRS
namespace Go.Proofs.Ytobchlakjgeadaa
open Go.RowKit
set_option maxRecDepth 100000

def RFix (w : World) (r : Ending) (w' : World) : Prop :=
  ∃ u v, r = .returned (.tuple #[u, v]) ∧ w'.ownsRow w.heap.size 3 1 u 288 (iv fixL) ∧ w'.ownsRow w.heap.size 3 1 v 32 (iv fixD) ∧ Below w.heap.size w w'

theorem fixL_take (k : Nat) (h : k < 288) : fixL.take (k + 1) = fixL.take k ++ [fl k] := by
  have hl : k < fixL.length := h
  rw [List.take_succ_eq_append_getElem hl]
  have := fl_fix k h
  simp [List.getD, hl] at this
  rw [this]
theorem fixD_take (k : Nat) (h : k < 32) : fixD.take (k + 1) = fixD.take k ++ [5] := by
  have hl : k < fixD.length := h
  rw [List.take_succ_eq_append_getElem hl]
  have := fd_fix k h
  simp [List.getD, hl] at this
  rw [← this]

set_option maxHeartbeats 1000000 in
theorem rfixed_any (w : World) : Calls Try.prog 24 #[] w (RFix w) := by
  obtain ⟨i0, hi0, hz0, hz1, hz2⟩ := info_parts int_info
  have HI0 := Lib.hid hi0; clear hi0
  unfold RFix
  go_enter Try.func24, Try.ntmps24
  go_wp2_with fail
  go_loopw [2, 4] (fun s i wr => ∃ k : Nat, k ≤ 288 ∧ i = .int .i64 k ∧ wr.ownsRow w.heap.size 3 1 s k (iv (fixL.take k)) ∧ Below w.heap.size w wr) (fun _ i _ => 288 - (intOf i).toNat)
  case atStart => exact ⟨0, by omega, rfl, World.ownsRow_nil _ _ _ _, Below.refl _ _⟩
  case round =>
    obtain ⟨k, hk, rfl, hown, hbel⟩ := hrel
    obtain ⟨A, cp, rfl, _⟩ := own_form hown
    have hsz := hbel.size
    by_cases hlt : k < 288
    · have HT := Lib.hid (fixL_take k hlt)
      have HO : Hid (∀ x : Int, (wr.alloc (.cells #[.int .i64 x] 3)).ownsRow w.heap.size 3 1 (.slice A k cp) k (iv (fixL.take k))) := Lib.hid (fun x => own_only hown (Only.of_below ((Below.refl _ _).alloc (Nat.le_refl _) _) Nob) (fun _ _ h => h))
      have HLT := Lib.hid hown.lt
      have HB := Lib.hid hbel
      clear hown hbel
      have d0 : decide ((k : Int) < 288) = true := decide_eq_true (by omega)
      by_cases h1 : k < 144
      · have E := Lib.hid (show fl k = 8 by unfold fl; rw [if_pos (by omega)])
        go_wp2_with (at_builtin; refine wpList_append_seen _ rfl (.tmp 20) (.tmp 21) _ rfl w.heap.size 3 i0 _ 1 8 Try.underlying30 HI0.out hz0 hz1 hz2 rfl (by omega) (.slice A k cp) k _ rfl (HO.out 8) _ _ 1 1 _ rfl (seen_one _ _ _) (by simp [Value.oneCell']) (by simp only [maxLen]; omega) (by omega) (by simp only [World.size_alloc]; omega) ?_; intro v1 w1 hown1 hg1 hat1)
        go_roundw
        case rel => exact ⟨k + 1, by omega, by go_num, by rw [HT.out, E.out, iv, List.map_append]; exact hown1, (HB.out.alloc hsz _).grown hg1 (by simp; omega) (fun j hj => (HLT.out j hj).1)⟩
        case measure => simp [intOf]; omega
      · by_cases h2 : 279 < k
        · have E := Lib.hid (show fl k = 8 by unfold fl; rw [if_neg (by omega), if_neg (by omega), if_neg (by omega)])
          have d1 : decide ((k : Int) < 144) = false := decide_eq_false (by omega)
          have d2 : decide (279 < (k : Int)) = true := decide_eq_true (by omega)
          go_wp2_with (at_builtin; refine wpList_append_seen _ rfl (.tmp 20) (.tmp 21) _ rfl w.heap.size 3 i0 _ 1 8 Try.underlying30 HI0.out hz0 hz1 hz2 rfl (by omega) (.slice A k cp) k _ rfl (HO.out 8) _ _ 1 1 _ rfl (seen_one _ _ _) (by simp [Value.oneCell']) (by simp only [maxLen]; omega) (by omega) (by simp only [World.size_alloc]; omega) ?_; intro v1 w1 hown1 hg1 hat1)
          go_roundw
          case rel => exact ⟨k + 1, by omega, by go_num, by rw [HT.out, E.out, iv, List.map_append]; exact hown1, (HB.out.alloc hsz _).grown hg1 (by simp; omega) (fun j hj => (HLT.out j hj).1)⟩
          case measure => simp [intOf]; omega
        · have d1 : decide ((k : Int) < 144) = false := decide_eq_false (by omega)
          have d2 : decide (279 < (k : Int)) = false := decide_eq_false (by omega)
          by_cases h3 : k < 256
          · have E := Lib.hid (show fl k = 9 by unfold fl; rw [if_neg (by omega), if_pos (by omega)])
            have d3 : decide ((k : Int) < 256) = true := decide_eq_true (by omega)
            go_wp2_with (at_builtin; refine wpList_append_seen _ rfl (.tmp 26) (.tmp 27) _ rfl w.heap.size 3 i0 _ 1 8 Try.underlying30 HI0.out hz0 hz1 hz2 rfl (by omega) (.slice A k cp) k _ rfl (HO.out 9) _ _ 1 1 _ rfl (seen_one _ _ _) (by simp [Value.oneCell']) (by simp only [maxLen]; omega) (by omega) (by simp only [World.size_alloc]; omega) ?_; intro v1 w1 hown1 hg1 hat1)
            go_roundw
            case rel => exact ⟨k + 1, by omega, by go_num, by rw [HT.out, E.out, iv, List.map_append]; exact hown1, (HB.out.alloc hsz _).grown hg1 (by simp; omega) (fun j hj => (HLT.out j hj).1)⟩
            case measure => simp [intOf]; omega
          · have E := Lib.hid (show fl k = 7 by unfold fl; rw [if_neg (by omega), if_neg (by omega), if_pos (by omega)])
            have d3 : decide ((k : Int) < 256) = false := decide_eq_false (by omega)
            go_wp2_with (at_builtin; refine wpList_append_seen _ rfl (.tmp 10) (.tmp 11) _ rfl w.heap.size 3 i0 _ 1 8 Try.underlying30 HI0.out hz0 hz1 hz2 rfl (by omega) (.slice A k cp) k _ rfl (HO.out 7) _ _ 1 1 _ rfl (seen_one _ _ _) (by simp [Value.oneCell']) (by simp only [maxLen]; omega) (by omega) (by simp only [World.size_alloc]; omega) ?_; intro v1 w1 hown1 hg1 hat1)
            go_roundw
            case rel => exact ⟨k + 1, by omega, by go_num, by rw [HT.out, E.out, iv, List.map_append]; exact hown1, (HB.out.alloc hsz _).grown hg1 (by simp; omega) (fun j hj => (HLT.out j hj).1)⟩
            case measure => simp [intOf]; omega
    · have hk288 : k = 288 := by omega
      have hown' : wr.ownsRow w.heap.size 3 1 (.slice A k cp) k (iv fixL) := by
        rw [List.take_of_length_le (by show 288 ≤ k; omega)] at hown
        exact hown
      have HK := Lib.hid hk288
      have d0 : decide ((k : Int) < 288) = false := decide_eq_false (by omega)
      clear hk288
      have HOX := Lib.hid hown'
      have HB := Lib.hid hbel
      clear hown hown' hbel
      obtain ⟨w5, hw5⟩ : ∃ w5, w5 = wr := ⟨_, rfl⟩
      subst hw5
      go_wp2_with fail
      go_loopw [3, 5] (fun s i wq => ∃ k : Nat, k ≤ 32 ∧ i = .int .i64 k ∧ wq.ownsRow w5.heap.size 3 1 s k (iv (fixD.take k)) ∧ Below w5.heap.size w5 wq) (fun _ i _ => 32 - (intOf i).toNat)
      case atStart => exact ⟨0, by omega, rfl, World.ownsRow_nil _ _ _ _, Below.refl _ _⟩
      case round =>
        obtain ⟨t, ht, rfl, hown, hbel⟩ := hrel
        obtain ⟨A2, cp2, rfl, _⟩ := own_form hown
        have hsz2 := hbel.size
        by_cases hlt : t < 32
        · have HT := Lib.hid (fixD_take t hlt)
          have HO : Hid ((wr.alloc (.cells #[.int .i64 5] 3)).ownsRow w5.heap.size 3 1 (.slice A2 t cp2) t (iv (fixD.take t))) := Lib.hid (own_only hown (Only.of_below ((Below.refl _ _).alloc (Nat.le_refl _) _) Nob) (fun _ _ h => h))
          have HLT := Lib.hid hown.lt
          have HB2 := Lib.hid hbel
          clear hown hbel
          have d0 : decide ((t : Int) < 32) = true := decide_eq_true (by omega)
          go_wp2_with (at_builtin; refine wpList_append_seen _ rfl (.tmp 33) (.tmp 34) _ rfl w5.heap.size 3 i0 _ 1 8 Try.underlying30 HI0.out hz0 hz1 hz2 rfl (by omega) (.slice A2 t cp2) t _ rfl HO.out _ _ 1 1 _ rfl (seen_one _ _ _) (by simp [Value.oneCell']) (by simp only [maxLen]; omega) (by omega) (by simp only [World.size_alloc]; omega) ?_; intro v1 w1 hown1 hg1 hat1)
          go_roundw
          case rel => exact ⟨t + 1, by omega, by go_num, by rw [HT.out, iv, List.map_append]; exact hown1, (HB2.out.alloc hsz2 _).grown hg1 (by simp; omega) (fun j hj => (HLT.out j hj).1)⟩
          case measure => simp [intOf]; omega
        · obtain rfl : t = 32 := by omega
          have hown' : wr.ownsRow w5.heap.size 3 1 (.slice A2 32 cp2) 32 (iv fixD) := by
            rw [List.take_of_length_le (by decide)] at hown
            exact hown
          have HO2 := Lib.hid hown'
          have HB2 := Lib.hid hbel
          clear hown hown' hbel
          go_wp2_with fail
          go_ret2
          have hox := HOX.out
          rw [HK.out] at hox ⊢
          exact ⟨_, _, rfl, own_only hox (Only.of_below HB2.out Nob) (fun _ _ h => h), own_base HO2.out HB.out.size, HB.out.trans (HB2.out.mono HB.out.size)⟩
end Go.Proofs.Ytobchlakjgeadaa
