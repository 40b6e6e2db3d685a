/-
  The contract of fixedLengths; rows of integers in arrays. Conditions: none.
-/
import Derived.Test.YtnnpiblnjflceaaLT
import Derived.Test.YtnnpiblnjflceaaW5
namespace Go.Proofs.Ytnnpiblnjflceaa
open Go.RowKit
set_option maxRecDepth 100000

/-- A row of integers. -/
def rz (n : Nat) (f : Nat → Int) : Array Value := Array.ofFn (n := n) fun i => .int .i64 (f i.val)
theorem rz_size (n : Nat) (f : Nat → Int) : (rz n f).size = n := by simp [rz]
theorem rz_get (n : Nat) (f : Nat → Int) (i : Nat) (h : i < n) : (rz n f)[i]? = some (.int .i64 (f i)) := by
  rw [Array.getElem?_eq_getElem (by rw [rz_size]; exact h)]
  simp [rz]
theorem rz_one (n : Nat) (f : Nat → Int) : (rz n f).all (·.oneCell') = true := by
  rw [Array.all_eq_true]
  intro i h
  simp only [rz, Array.getElem_ofFn]
  rfl
theorem rz_ext (n : Nat) (f g : Nat → Int) (h : ∀ i, i < n → f i = g i) : rz n f = rz n g := by
  apply Array.ext
  · simp [rz]
  · intro i h1 h2
    rw [rz_size] at h1
    simp only [rz, Array.getElem_ofFn]
    rw [h i h1]
theorem rz_set (n : Nat) (f : Nat → Int) (k : Nat) (v : Int) : (rz n f).setIfInBounds k (.int .i64 v) = rz n (fun i => if i = k then v else f i) := by
  apply Array.ext
  · simp [rz]
  · intro i h1 h2
    have h3 : i < (rz n f).size := by simpa using h1
    rw [Array.getElem_setIfInBounds h3]
    simp only [rz, Array.getElem_ofFn]
    by_cases hi : k = i
    · subst hi; simp
    · rw [if_neg hi, if_neg (fun e => hi e.symm)]
theorem rz_const (n : Nat) (x : Int) : Array.replicate n (.int .i64 x) = rz n (fun _ => x) := by
  apply Array.ext
  · simp [rz]
  · intro i h1 h2
    simp [rz]
theorem rz_list (n : Nat) (f : Nat → Int) : (rz n f).toList = iv ((List.range n).map f) := by
  apply List.ext_getElem
  · simp [rz]
  · intro i h1 h2
    simp [rz, iv]

/-- An array is read as a row of integers. -/
theorem seen_rz {w : World} {g : Nat} {t : TypeId} {n : Nat} {f : Nat → Int} (h : Whole w g t (rz n f)) : Seen w (g + 1) 1 (some ⟨g, 0, none⟩) n n (iv ((List.range n).map f)) := by
  refine ⟨by simp, Nat.le_refl _, .inr ⟨_, rfl, fun _ => ⟨rfl, Nat.lt_succ_self _, fun j u hu => ?_⟩⟩⟩
  show _ = some u
  simp only [Nat.zero_add]
  rw [h.cell j, ← hu, ← rz_list]
  simp

theorem row86 : (Try.prog.info? 86).map (fun i => (i.zero, i.size)) = some (some (.agg (Array.replicate 288 (.int .i64 0))), 288) := by kernel_rfl
theorem row87 : (Try.prog.info? 87).map (fun i => (i.zero, i.size)) = some (some (.agg (Array.replicate 32 (.int .i64 0))), 32) := by kernel_rfl
theorem built86 : Try.prog.built 86 [] = some (Array.replicate 288 (.int .i64 0)) := by kernel_rfl
theorem built87 : Try.prog.built 87 [] = some (Array.replicate 32 (.int .i64 0)) := by kernel_rfl
theorem row59 : (Try.prog.info? 59).map (fun i => (i.zero, i.size)) = some (some (.agg (Array.replicate 317 (.int .i64 0))), 317) := by kernel_rfl
theorem built59 : Try.prog.built 59 [] = some (Array.replicate 317 (.int .i64 0)) := by kernel_rfl

/-- The lengths of a fixed block's signs. -/
def fixS (i : Nat) : Int := if i ≤ 143 then 8 else if i ≤ 255 then 9 else if i ≤ 279 then 7 else 8

/-- Two arrays while they are filled. -/
def FixAt (w : World) (k j : Nat) (wr : World) : Prop :=
  Whole wr w.heap.size 86 (rz 288 fun i => if i < k then fixS i else 0) ∧ Whole wr (w.heap.size + 1) 87 (rz 32 fun i => if i < j then 5 else 0) ∧ Below w.heap.size w wr

theorem FixAt.put1 {w wr : World} {k : Nat} (h : FixAt w k 0 wr) (hk : k < 288) (v : Int) (hv : fixS k = v) : FixAt w (k + 1) 0 (wr.setCell ⟨w.heap.size, k, none⟩ (.int .i64 v)) := by
  have h1 := h.1.put k (.int .i64 v)
  rw [rz_set] at h1
  refine ⟨?_, h.2.1.far (by simp) _, h.2.2.setCell (by simp) _⟩
  rw [rz_ext 288 _ (fun i => if i = k then v else if i < k then fixS i else 0)]
  · exact h1
  · intro i hi
    by_cases e : i = k
    · subst e; simp [hv]
    · rw [if_neg e]
      by_cases e2 : i < k
      · rw [if_pos e2, if_pos (by omega)]
      · rw [if_neg e2, if_neg (by omega)]
theorem FixAt.put2 {w wr : World} {j : Nat} (h : FixAt w 288 j wr) (hj : j < 32) : FixAt w 288 (j + 1) (wr.setCell ⟨w.heap.size + 1, j, none⟩ (.int .i64 5)) := by
  have h1 := h.2.1.put j (.int .i64 5)
  rw [rz_set] at h1
  refine ⟨h.1.far (by simp) _, ?_, h.2.2.setCell (by simp) _⟩
  rw [rz_ext 32 _ (fun i => if i = j then 5 else if i < j then 5 else 0)]
  · exact h1
  · intro i hi
    by_cases e : i = j
    · subst e; simp
    · rw [if_neg e]
      by_cases e2 : i < j
      · rw [if_pos e2, if_pos (by omega)]
      · rw [if_neg e2, if_neg (by omega)]

theorem fix_start (w : World) : FixAt w 0 0 ((((w.alloc (.cells (rz 288 fun _ => 0) 86)).alloc (.cells (rz 32 fun _ => 0) 87)).setRow w.heap.size (rz 288 fun _ => 0)).setRow (w.heap.size + 1) (rz 32 fun _ => 0)) := by
  have e1 : (rz 288 fun i => if i < 0 then fixS i else 0) = rz 288 fun _ => 0 := rz_ext _ _ _ (fun i _ => by simp)
  have e2 : (rz 32 fun i => if i < 0 then (5 : Int) else 0) = rz 32 fun _ => 0 := rz_ext _ _ _ (fun i _ => by simp)
  unfold FixAt
  rw [e1, e2]
  refine ⟨Whole.setRow_far (Whole.setRow (cs := rz 288 fun _ => 0) ((Whole.new w 86 _).alloc _) _) _ (by omega), Whole.setRow (cs := rz 32 fun _ => 0) (Whole.setRow_far ?_ _ (by omega)) _, ?_⟩
  · have := Whole.new (w.alloc (.cells (rz 288 fun _ => 0) 86)) 87 (rz 32 fun _ => 0)
    simpa using this
  · exact below_setRow (below_setRow (((Below.refl _ _).alloc (Nat.le_refl _) _).alloc (by simp) _) _ (Nat.le_refl _)) _ (by omega)

/-- What fixedLengths answers. -/
def FixRes (w : World) (e : Ending) (w' : World) : Prop :=
  e = .returned (.tuple #[.slice (some ⟨w.heap.size, 0, none⟩) 288 288, .slice (some ⟨w.heap.size + 1, 0, none⟩) 32 32]) ∧ Whole w' w.heap.size 86 (rz 288 fixS) ∧ Whole w' (w.heap.size + 1) 87 (rz 32 fun _ => 5) ∧ Below w.heap.size w w'

theorem at86 (w : World) (cs ds : Array Value) : ((w.alloc (.cells cs 86)).alloc (.cells ds 87)).heap[w.heap.size]? = some (.cells cs 86 (0, 0)) := ((Whole.new w 86 cs).alloc (.cells ds 87))
theorem at87 (w : World) (cs cs' ds : Array Value) : (((w.alloc (.cells cs 86)).alloc (.cells ds 87)).setRow w.heap.size cs').heap[w.heap.size + 1]? = some (.cells ds 87 (0, 0)) := by
  have h : Whole ((w.alloc (.cells cs 86)).alloc (.cells ds 87)) (w.heap.size + 1) 87 ds := by
    have := Whole.new (w.alloc (.cells cs 86)) 87 ds
    simpa using this
  exact h.setRow_far cs' (by omega)

set_option maxHeartbeats 4000000 in
theorem fixedLengths_any (w : World) : Calls Try.prog 46 #[] w (FixRes w) := by
  have hz1 : ∀ W, (zeroValue 86).run Try.prog W = .ok (.agg (rz 288 fun _ => 0)) W := by rw [← rz_const]; exact (zero_of_info row86).1
  have hz2 : ∀ W, (zeroValue 87).run Try.prog W = .ok (.agg (rz 32 fun _ => 0)) W := by rw [← rz_const]; exact (zero_of_info row87).1
  have hb1 : ∀ W, (Instr.build 86 #[]).run Try.prog W = .ok (.agg (rz 288 fun _ => 0)) W := fun W => by rw [← rz_const]; exact run_build W 86 #[] _ built86
  have hb2 : ∀ W, (Instr.build 87 #[]).run Try.prog W = .ok (.agg (rz 32 fun _ => 0)) W := fun W => by rw [← rz_const]; exact run_build W 87 #[] _ built87
  have HI1 := Lib.hid (fun f => show (Try.prog.info? 86).map (·.size) = some (rz 288 f).size by rw [rz_size]; exact (zero_of_info row86).2)
  have HI2 := Lib.hid (fun f => show (Try.prog.info? 87).map (·.size) = some (rz 32 f).size by rw [rz_size]; exact (zero_of_info row87).2)
  go_enter Try.func46, Try.ntmps46
  go_wp2_with (with_reducible first
    | (refine wpList_store_row rfl 86 (.tmp 2) (.tmp 6) rfl w.heap.size (rz 288 fun _ => 0) rfl rfl 86 (rz 288 fun _ => 0) (at86 w _ _) (HI1.out _) rfl (rz_one _ _) ?_)
    | (refine wpList_store_row rfl 87 (.tmp 3) (.tmp 7) rfl (w.heap.size + 1) (rz 32 fun _ => 0) rfl rfl 87 (rz 32 fun _ => 0) (at87 w _ _ _) (HI2.out _) rfl (rz_one _ _) ?_))
  have h0 := fix_start w
  generalize (((w.alloc (.cells (rz 288 fun _ => 0) 86)).alloc (.cells (rz 32 fun _ => 0) 87)).setRow w.heap.size (rz 288 fun _ => 0)).setRow (w.heap.size + 1) (rz 32 fun _ => 0) = W at *
  have H0 := Lib.hid h0; clear h0
  clear hz1 hz2 hb1 hb2
  go_loopw [4, 8] (fun _ i wr => ∃ k : Nat, k ≤ 288 ∧ i = .int .i64 k ∧ FixAt w k 0 wr) (fun _ i _ => 288 - (intOf i).toNat)
  case atStart => exact ⟨0, Nat.zero_le _, rfl, H0.out⟩
  case round =>
    obtain ⟨k, hk, rfl, hin⟩ := hrel
    by_cases hlt : k < 288
    · obtain ⟨old, hold⟩ : ∃ old, wr.cell? ⟨w.heap.size, k, none⟩ = some old := ⟨_, (hin.1.cell k).trans (rz_get _ _ k hlt)⟩
      have hfz := hin.1.frozen k
      have HIn := Lib.hid hin; clear hin
      have k0 : (0 : Int) ≤ k := by omega
      have kl : (k : Int) < 288 := by omega
      by_cases h143 : k ≤ 143
      · have d1 : decide ((k : Int) ≤ 143) = true := decide_eq_true (by omega)
        have e : fixS k = 8 := if_pos h143
        have hp := Lib.hid (HIn.out.put1 hlt 8 e)
        clear h143
        go_wp2_with fail
        go_roundw
        case rel => exact ⟨k + 1, by omega, by go_num, hp.out⟩
        case measure => simp [intOf]; omega
      · have d1 : decide ((k : Int) ≤ 143) = false := decide_eq_false (by omega)
        by_cases h255 : k ≤ 255
        · have d2 : decide ((k : Int) ≤ 255) = true := decide_eq_true (by omega)
          have e : fixS k = 9 := by unfold fixS; rw [if_neg h143, if_pos h255]
          have hp := Lib.hid (HIn.out.put1 hlt 9 e)
          clear h143 h255
          go_wp2_with fail
          go_roundw
          case rel => exact ⟨k + 1, by omega, by go_num, hp.out⟩
          case measure => simp [intOf]; omega
        · have d2 : decide ((k : Int) ≤ 255) = false := decide_eq_false (by omega)
          by_cases h279 : k ≤ 279
          · have d3 : decide ((k : Int) ≤ 279) = true := decide_eq_true (by omega)
            have e : fixS k = 7 := by unfold fixS; rw [if_neg h143, if_neg h255, if_pos h279]
            have hp := Lib.hid (HIn.out.put1 hlt 7 e)
            clear h143 h255 h279
            go_wp2_with fail
            go_roundw
            case rel => exact ⟨k + 1, by omega, by go_num, hp.out⟩
            case measure => simp [intOf]; omega
          · have d3 : decide ((k : Int) ≤ 279) = false := decide_eq_false (by omega)
            have e : fixS k = 8 := by unfold fixS; rw [if_neg h143, if_neg h255, if_neg h279]
            have hp := Lib.hid (HIn.out.put1 hlt 8 e)
            clear h143 h255 h279
            go_wp2_with fail
            go_roundw
            case rel => exact ⟨k + 1, by omega, by go_num, hp.out⟩
            case measure => simp [intOf]; omega
    · obtain rfl : k = 288 := by omega
      have HIn := Lib.hid hin; clear hin
      go_wp2_with fail
      go_loopw [5, 29] (fun _ i wr => ∃ k : Nat, k ≤ 32 ∧ i = .int .i64 k ∧ FixAt w 288 k wr) (fun _ i _ => 32 - (intOf i).toNat)
      case atStart => exact ⟨0, Nat.zero_le _, rfl, HIn.out⟩
      case round =>
        obtain ⟨j, hj, rfl, hin⟩ := hrel
        by_cases hlt2 : j < 32
        · obtain ⟨old, hold⟩ : ∃ old, wr.cell? ⟨w.heap.size + 1, j, none⟩ = some old := ⟨_, (hin.2.1.cell j).trans (rz_get _ _ j hlt2)⟩
          have hfz := hin.2.1.frozen j
          have hp := Lib.hid (hin.put2 hlt2)
          clear hin
          have k0 : (0 : Int) ≤ j := by omega
          have kl : (j : Int) < 32 := by omega
          go_wp2_with fail
          go_roundw
          case rel => exact ⟨j + 1, by omega, by go_num, hp.out⟩
          case measure => simp [intOf]; omega
        · obtain rfl : j = 32 := by omega
          have HIn := Lib.hid hin; clear hin
          go_wp2_with fail
          go_quiet (fail)
          go_wp2_with fail
          go_ret2
          refine ⟨rfl, ?_, ?_, below_drewN HIn.out.2.2 _⟩
          · have h := HIn.out.1
            rw [rz_ext 288 _ fixS (fun i hi => if_pos hi)] at h
            exact h
          · have h := HIn.out.2.1
            rw [rz_ext 32 _ (fun _ => 5) (fun i hi => if_pos hi)] at h
            exact h
end Go.Proofs.Ytnnpiblnjflceaa
