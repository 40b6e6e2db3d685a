/-
  Contracts of prefix: firstWords. Conditions: right lengths.
-/
import Derived.Test.YtnnpiblnjflceaaW1
namespace Go.Proofs.Ytnnpiblnjflceaa
open Go.RowKit

/-- Three blocks: the argument's, the result's, the array's own. -/
def Arr3 (w : World) (c f : Nat → Nat) (wr : World) : Prop := Whole wr w.heap.size 102 (ra c) ∧ Whole wr (w.heap.size + 1) 102 (ra fun _ => 0) ∧ Whole wr (w.heap.size + 2) 102 (ra f) ∧ Below w.heap.size w wr

theorem new3 (w : World) (bs cs ds : Array Value) : (((w.alloc (.cells bs 102)).alloc (.cells cs 102)).alloc (.cells ds 102)).heap[w.heap.size + 2]? = some (.cells ds 102 (0, 0)) := by
  have := heap_alloc_new ((w.alloc (.cells bs 102)).alloc (.cells cs 102)) (.cells ds 102)
  simpa using this

theorem arr3_start (w : World) (c f : Nat → Nat) : Arr3 w c f ((((w.alloc (.cells (ra c) 102)).alloc (.cells (ra fun _ => 0) 102)).alloc (.cells (ra fun _ => 0) 102)).setRow (w.heap.size + 2) (ra f)) := by
  refine ⟨(((Whole.new w 102 _).alloc _).alloc _).setRow_far _ (by omega), ?_, Whole.setRow (cs := ra fun _ => 0) (new3 w _ _ _) _, ?_⟩
  · have := (Whole.new (w.alloc (.cells (ra c) 102)) 102 (ra fun _ => 0)).alloc (.cells (ra fun _ => 0) 102)
    have h := this.setRow_far (g' := w.heap.size + 2) (ra f) (by simp)
    simpa using h
  · exact below_setRow ((((Below.refl _ _).alloc (Nat.le_refl _) _).alloc (by simp) _).alloc (by simp; omega) _) _ (by omega)
theorem Arr3.put {w wr : World} {c f : Nat → Nat} (h : Arr3 w c f wr) (k v : Nat) : Arr3 w c (fun i => if i = k then v else f i) (wr.setCell ⟨w.heap.size + 2, k, none⟩ (.int .i64 (v : Nat))) := by
  have h1 := h.2.2.1.put k (.int .i64 (v : Nat))
  rw [ra_set] at h1
  exact ⟨h.1.far (by simp) _, h.2.1.far (by simp) _, h1, h.2.2.2.setCell (by simp) _⟩
theorem Arr3.ext {w wr : World} {c f g : Nat → Nat} (h : Arr3 w c f wr) (he : ∀ i, i < 16 → f i = g i) : Arr3 w c g wr := by
  rw [Arr3, ← ra_ext f g he]; exact h
theorem Arr3.drew {w wr : World} {c f : Nat → Nat} (h : Arr3 w c f wr) : Arr3 w c f wr.drew := ⟨h.1.drew, h.2.1.drew, h.2.2.1.drew, h.2.2.2.drew⟩

set_option maxHeartbeats 1000000 in
set_option maxRecDepth 100000 in
theorem firstWords_any (l : List Int) (hr : kindOf l ≠ 0) (w : World) :
    Calls Try.prog 91 #[.agg (ra fun i => ct i l)] w (GivesArr w fun i => fst l i) := by
  have HR := Lib.hid hr; clear hr
  have hz := zero73
  have hb := build73
  have HI := Lib.hid info73
  go_enter Try.func91, Try.ntmps91
  go_wp2_with (with_reducible refine wpList_store_row rfl 102 (.tmp 3) (.tmp 5) rfl (w.heap.size + 2) (ra fun _ => 0) rfl rfl 102 (ra fun _ => 0) (new3 w _ _ _) (HI.out _) rfl (ra_one _) ?_)
  have h0 := arr3_start w (fun i => ct i l) (fun _ => 0)
  generalize (((w.alloc (.cells (ra fun i => ct i l) 102)).alloc (.cells (ra fun _ => 0) 102)).alloc (.cells (ra fun _ => 0) 102)).setRow (w.heap.size + 2) (ra fun _ => 0) = W at *
  have H0 := Lib.hid h0; clear h0
  clear hz hb
  go_loopw [4] (fun i wr => ∃ k : Nat, 1 ≤ k ∧ k ≤ 16 ∧ i = .int .i64 k ∧ Arr3 w (fun i => ct i l) (fun i => if i < k then fst l i else 0) wr) (fun i _ => 16 - (intOf i).toNat)
  case atStart =>
    refine ⟨1, by omega, by omega, rfl, H0.out.ext fun i _ => ?_⟩
    by_cases h : i < 1
    · obtain rfl : i = 0 := by omega
      rfl
    · rw [if_neg h]
  case round =>
    obtain ⟨k, h1, h2, rfl, hin⟩ := hrel
    by_cases hlt : k < 16
    · obtain ⟨j, rfl⟩ : ∃ j, k = j + 1 := ⟨k - 1, by omega⟩
      have hj : j < 16 := by omega
      have hf : wr.cell? ⟨w.heap.size + 2, j, none⟩ = some (.int .i64 (fst l j : Nat)) := by
        have := (hin.2.2.1.cell j).trans (ra_get _ j hj)
        rwa [if_pos (by omega)] at this
      have ho : wr.cell? ⟨w.heap.size + 2, j + 1, none⟩ = some (.int .i64 (0 : Nat)) := by
        have := (hin.2.2.1.cell (j + 1)).trans (ra_get _ (j + 1) hlt)
        rwa [if_neg (by omega)] at this
      have hg := hin.2.2.1.frozen (j + 1)
      have hc : wr.cell? ⟨w.heap.size, j, none⟩ = some (.int .i64 (ct j l : Nat)) := (hin.1.cell j).trans (ra_get _ j hj)
      have hup := upTo_le HR.out j (by omega)
      have hp : 2 ^ j ≤ 32768 := Nat.pow_le_pow_right (n := 2) (i := j) (j := 15) (by omega) (by omega)
      have E : Hid (fst l (j + 1) = 2 * (fst l j + ct j l)) := Lib.hid rfl
      unfold upTo at hup
      generalize hp2 : 2 ^ j = p at *
      clear hp2
      have HIn := Lib.hid hin; clear hin
      generalize hF : fst l j = F at *
      generalize hC : ct j l = C at *
      clear hF hC
      have wj : IntKind.i64.wrap ((j + 1 : Nat) - 1 : Int) = j := by rw [IntWalk.i64_in _ (by omega)]; omega
      have wj' : (((j + 1 : Nat) : Int) - 1) = j := by omega
      have j0 : (0 : Int) ≤ j := by omega
      have j16 : (j : Int) < 16 := by omega
      have k0 : (0 : Int) ≤ ((j + 1 : Nat) : Int) := by omega
      have k16 : ((j + 1 : Nat) : Int) < 16 := by omega
      go_wp2
      go_region
      go_wp2
      go_roundw
      case rel =>
        refine ⟨j + 2, by omega, by omega, by go_num, ?_⟩
        have h3 := (HIn.out.put (j + 1) (2 * (F + C))).drew
        have e : (.int .i64 (2 * ((F : Int) + C)) : Value) = .int .i64 ((2 * (F + C) : Nat) : Int) := by go_num
        first | rw [e] | skip
        refine h3.ext fun i hi => ?_
        by_cases hi2 : i = j + 1
        · subst hi2; rw [if_pos rfl, if_pos (by omega), E.out]
        · rw [if_neg hi2]
          by_cases hi3 : i < j + 1
          · rw [if_pos hi3, if_pos (by omega)]
          · rw [if_neg hi3, if_neg (by omega)]
      case measure => simp [intOf]; omega
    · have HIn : Hid (Arr3 w (fun i => ct i l) (fun i => fst l i) wr) := Lib.hid (hin.ext fun i hi => by rw [if_pos (by omega)])
      clear hin
      go_wp2_with (first
        | (refine wpList_load_row rfl 102 (.tmp 3) rfl (w.heap.size + 2) rfl 102 (ra fun i => fst l i) (0, 0) _ HIn.out.2.2.1 Try.underlying102 rfl (HI.out _) ?_)
        | (refine wpList_store_row rfl 102 (.tmp 2) (.tmp 22) rfl (w.heap.size + 1) (ra fun i => fst l i) rfl rfl 102 (ra fun _ => 0) HIn.out.2.1 (HI.out _) (by simp) (ra_one _) ?_))
      exact bodyPost_ret (v := .agg (ra fun i => fst l i)) (results_cell_row (p := 2) (ty := 102) rfl _ _ (w.heap.size + 1) 102 (ra fun i => fst l i) (0, 0) _ rfl (HIn.out.2.1.setRow _) Try.underlying102 rfl (HI.out _)) rfl ⟨rfl, below_setRow HIn.out.2.2.2 _ (by omega)⟩
end Go.Proofs.Ytnnpiblnjflceaa
