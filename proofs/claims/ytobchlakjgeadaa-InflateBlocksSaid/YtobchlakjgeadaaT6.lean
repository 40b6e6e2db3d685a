/-
  The contract of fixedLengths. Conditions: none.
-/
import Derived.Test.YtobchlakjgeadaaT5
namespace Go.Proofs.Ytobchlakjgeadaa
open Go.RowKit
set_option maxRecDepth 100000

/-- So many numbers as an array. -/
def rn (n : Nat) (f : Nat → Int) : Array Value := Array.ofFn (n := n) fun i => .int .i64 (f i.val)
@[simp] theorem rn_size (n : Nat) (f : Nat → Int) : (rn n f).size = n := by simp [rn]
theorem rn_get (n : Nat) (f : Nat → Int) (i : Nat) (h : i < n) : (rn n f)[i]? = some (.int .i64 (f i)) := by
  rw [Array.getElem?_eq_getElem (by simpa using h)]
  simp [rn]
theorem rn_one (n : Nat) (f : Nat → Int) : (rn n f).all (·.oneCell') = true := by
  rw [Array.all_eq_true]
  intro i h
  simp only [rn, Array.getElem_ofFn]
  rfl
theorem rn_ext (n : Nat) (f g : Nat → Int) (h : ∀ i, i < n → f i = g i) : rn n f = rn n g := by
  apply Array.ext
  · simp
  · intro i h1 h2
    simp only [rn, Array.getElem_ofFn]
    rw [h i (by simpa using h1)]
theorem rn_set (n : Nat) (f : Nat → Int) (k : Nat) (v : Int) : (rn n f).setIfInBounds k (.int .i64 v) = rn n (fun i => if i = k then v else f i) := by
  apply Array.ext
  · simp
  · intro i h1 h2
    rw [Array.getElem_setIfInBounds]
    · simp only [rn, Array.getElem_ofFn]
      by_cases h : k = i
      · subst h; simp
      · rw [if_neg h, if_neg (Ne.symm h)]
    · simpa using h2
theorem rn_list (l : List Int) : iv l = (rn l.length (fun i => l.getD i 0)).toList := by
  apply List.ext_getElem?
  intro i
  by_cases h : i < l.length
  · rw [iv_get? h]
    simp [rn, h, List.getD]
  · rw [List.getElem?_eq_none (by simp [iv]; omega), List.getElem?_eq_none (by simp; omega)]

theorem seen_rn {w : World} {g : Nat} {t : TypeId} {l : List Int} {n : Nat} {f : Nat → Int} (h : Whole w g t (rn n f)) (hn : l.length = n) (hl : ∀ i, i < n → f i = l.getD i 0) : Seen w w.heap.size 1 (some ⟨g, 0, none⟩) n n (iv l) := by
  subst hn
  rw [rn_ext _ f _ hl] at h
  refine ⟨by simp [iv], Nat.le_refl _, .inr ⟨_, rfl, fun _ => ⟨rfl, h.lt, fun j u hu => ?_⟩⟩⟩
  simp only [Nat.zero_add]
  rw [h.cell j]
  rw [rn_list] at hu
  simpa using hu

theorem row103 : (Try.prog.info? 103).map (fun i => (i.zero, i.size)) = some (some (.agg (Array.replicate 288 (.int .i64 0))), 288) := by kernel_rfl
theorem row104 : (Try.prog.info? 104).map (fun i => (i.zero, i.size)) = some (some (.agg (Array.replicate 32 (.int .i64 0))), 32) := by kernel_rfl
theorem built103 : Try.prog.built 103 [] = some (Array.replicate 288 (.int .i64 0)) := by kernel_rfl
theorem built104 : Try.prog.built 104 [] = some (Array.replicate 32 (.int .i64 0)) := by kernel_rfl
theorem rn_zero (n : Nat) : Array.replicate n (.int .i64 0) = rn n (fun _ => 0) := by
  apply Array.ext
  · simp
  · intro i h1 h2
    simp [rn]
theorem zero103 (W : World) : (zeroValue 103).run Try.prog W = .ok (.agg (rn 288 fun _ => 0)) W := by rw [← rn_zero]; exact (zero_of_info row103).1 W
theorem zero104 (W : World) : (zeroValue 104).run Try.prog W = .ok (.agg (rn 32 fun _ => 0)) W := by rw [← rn_zero]; exact (zero_of_info row104).1 W
theorem build103 (W : World) : (Instr.build 103 #[]).run Try.prog W = .ok (.agg (rn 288 fun _ => 0)) W := by rw [← rn_zero]; exact run_build W 103 #[] _ built103
theorem build104 (W : World) : (Instr.build 104 #[]).run Try.prog W = .ok (.agg (rn 32 fun _ => 0)) W := by rw [← rn_zero]; exact run_build W 104 #[] _ built104
theorem info103 (f : Nat → Int) : (Try.prog.info? 103).map (·.size) = some (rn 288 f).size := by rw [rn_size]; exact (zero_of_info row103).2
theorem info104 (f : Nat → Int) : (Try.prog.info? 104).map (·.size) = some (rn 32 f).size := by rw [rn_size]; exact (zero_of_info row104).2

/-- The fixed lengths, sign by sign. -/
def fl (i : Nat) : Int := if i ≤ 143 then 8 else if i ≤ 255 then 9 else if i ≤ 279 then 7 else 8
theorem fl_fix : ∀ i, i < 288 → fl i = fixL.getD i 0 := by decide +kernel
theorem fd_fix : ∀ i, i < 32 → (5 : Int) = fixD.getD i 0 := by decide +kernel

/-- Two arrays: of signs, of distances. -/
def Fix2 (w : World) (f d : Nat → Int) (wr : World) : Prop := Whole wr w.heap.size 103 (rn 288 f) ∧ Whole wr (w.heap.size + 1) 104 (rn 32 d) ∧ Below w.heap.size w wr
theorem fix2_start (w : World) : Fix2 w (fun _ => 0) (fun _ => 0) ((((w.alloc (.cells (rn 288 fun _ => 0) 103)).alloc (.cells (rn 32 fun _ => 0) 104)).setRow w.heap.size (rn 288 fun _ => 0)).setRow (w.heap.size + 1) (rn 32 fun _ => 0)) := by
  have h1 : Whole ((w.alloc (.cells (rn 288 fun _ => 0) 103)).alloc (.cells (rn 32 fun _ => 0) 104)) (w.heap.size + 1) 104 (rn 32 fun _ => 0) := by
    have := Whole.new (w.alloc (.cells (rn 288 fun _ => 0) 103)) 104 (rn 32 fun _ => 0)
    simpa using this
  refine ⟨((((Whole.new w 103 _).alloc _).setRow _).setRow_far _ (by omega)), ((h1.setRow_far _ (by omega)).setRow _), ?_⟩
  exact below_setRow (below_setRow (((Below.refl _ _).alloc (Nat.le_refl _) _).alloc (by simp) _) _ (Nat.le_refl _)) _ (by omega)
theorem Fix2.put {w wr : World} {f d : Nat → Int} (h : Fix2 w f d wr) (k : Nat) (v : Int) : Fix2 w (fun i => if i = k then v else f i) d (wr.setCell ⟨w.heap.size, k, none⟩ (.int .i64 v)) := by
  have h1 := h.1.put k (.int .i64 v)
  rw [rn_set] at h1
  exact ⟨h1, h.2.1.far (by simp) _, h.2.2.setCell (by simp) _⟩
theorem Fix2.put2 {w wr : World} {f d : Nat → Int} (h : Fix2 w f d wr) (k : Nat) (v : Int) : Fix2 w f (fun i => if i = k then v else d i) (wr.setCell ⟨w.heap.size + 1, k, none⟩ (.int .i64 v)) := by
  have h1 := h.2.1.put k (.int .i64 v)
  rw [rn_set] at h1
  exact ⟨h.1.far (by simp) _, h1, h.2.2.setCell (by simp) _⟩
theorem Fix2.ext {w wr : World} {f g d e : Nat → Int} (h : Fix2 w f d wr) (he : ∀ i, i < 288 → f i = g i) (hd : ∀ i, i < 32 → d i = e i) : Fix2 w g e wr := by
  rw [Fix2, ← rn_ext _ f g he, ← rn_ext _ d e hd]; exact h

theorem new103 (w : World) (cs ds : Array Value) : ((w.alloc (.cells cs 103)).alloc (.cells ds 104)).heap[w.heap.size]? = some (.cells cs 103 (0, 0)) := (Whole.new w 103 cs).alloc (.cells ds 104)
theorem new104 (w : World) (cs ds es : Array Value) : (((w.alloc (.cells cs 103)).alloc (.cells ds 104)).setRow w.heap.size es).heap[w.heap.size + 1]? = some (.cells ds 104 (0, 0)) := by
  have := Whole.new (w.alloc (.cells cs 103)) 104 ds
  exact (by simpa using this : Whole ((w.alloc (.cells cs 103)).alloc (.cells ds 104)) (w.heap.size + 1) 104 ds).setRow_far es (by omega)

def FixRes (w : World) (e : Ending) (w' : World) : Prop :=
  ∃ g1 g2, e = .returned (.tuple #[.slice (some ⟨g1, 0, none⟩) 288 288, .slice (some ⟨g2, 0, none⟩) 32 32]) ∧ Seen w' w'.heap.size 1 (some ⟨g1, 0, none⟩) 288 288 (iv fixL) ∧ Seen w' w'.heap.size 1 (some ⟨g2, 0, none⟩) 32 32 (iv fixD) ∧ Below w.heap.size w w'

set_option maxHeartbeats 2000000 in
theorem fixedLengths_any (w : World) : Calls Try.prog 53 #[] w (FixRes w) := by
  have hz := zero103
  have hz2 := zero104
  have hb := build103
  have hb2 := build104
  have HI := Lib.hid info103
  have HI2 := Lib.hid info104
  unfold FixRes
  go_enter Try.func53, Try.ntmps53
  go_wp2_with (first
    | (with_reducible refine wpList_store_row rfl 103 (.tmp 2) (.tmp 6) rfl w.heap.size (rn 288 fun _ => 0) rfl rfl 103 (rn 288 fun _ => 0) (new103 w _ _) (HI.out _) rfl (rn_one _ _) ?_)
    | (with_reducible refine wpList_store_row rfl 104 (.tmp 3) (.tmp 7) rfl (w.heap.size + 1) (rn 32 fun _ => 0) rfl rfl 104 (rn 32 fun _ => 0) (new104 w _ _ _) (HI2.out _) rfl (rn_one _ _) ?_))
  have h0 := fix2_start w
  generalize (((w.alloc (.cells (rn 288 fun _ => 0) 103)).alloc (.cells (rn 32 fun _ => 0) 104)).setRow w.heap.size (rn 288 fun _ => 0)).setRow (w.heap.size + 1) (rn 32 fun _ => 0) = W at *
  have H0 := Lib.hid h0; clear h0
  clear hz hb hz2 hb2
  go_loopw [4, 8] (fun _ i wr => ∃ k : Nat, k ≤ 288 ∧ i = .int .i64 k ∧ Fix2 w (fun i => if i < k then fl i else 0) (fun _ => 0) wr) (fun _ i _ => 288 - (intOf i).toNat)
  case atStart => exact ⟨0, Nat.zero_le _, rfl, H0.out.ext (fun i _ => by simp) (fun _ _ => rfl)⟩
  case round =>
    obtain ⟨k, hk, rfl, hin⟩ := hrel
    by_cases hlt : k < 288
    · have c0 : wr.cell? ⟨w.heap.size, k, none⟩ = some (.int .i64 (if k < k then fl k else 0)) := (hin.1.cell k).trans (rn_get _ _ k hlt)
      have f0 := hin.1.frozen k
      have HIn := Lib.hid hin; clear hin
      have HN : Hid (∀ v, fl k = v → Fix2 w (fun i => if i < k + 1 then fl i else 0) (fun _ => 0) (wr.setCell ⟨w.heap.size, k, none⟩ (.int .i64 v))) := Lib.hid (fun v hv => by
        refine (HIn.out.put k v).ext (fun i _ => ?_) (fun _ _ => rfl)
        by_cases h : i = k
        · subst h; rw [if_pos rfl, if_pos (by omega), hv]
        · rw [if_neg h]
          by_cases h2 : i < k
          · rw [if_pos h2, if_pos (by omega)]
          · rw [if_neg h2, if_neg (by omega)])
      by_cases h1 : k ≤ 143
      · have E := Lib.hid (show fl k = 8 by unfold fl; rw [if_pos h1])
        go_wp2
        go_roundw
        case rel => exact ⟨k + 1, by omega, by go_num, HN.out _ E.out⟩
        case measure => simp [intOf]; omega
      · by_cases h2 : k ≤ 255
        · have E := Lib.hid (show fl k = 9 by unfold fl; rw [if_neg h1, if_pos h2])
          go_wp2
          go_roundw
          case rel => exact ⟨k + 1, by omega, by go_num, HN.out _ E.out⟩
          case measure => simp [intOf]; omega
        · by_cases h3 : k ≤ 279
          · have E := Lib.hid (show fl k = 7 by unfold fl; rw [if_neg h1, if_neg h2, if_pos h3])
            go_wp2
            go_roundw
            case rel => exact ⟨k + 1, by omega, by go_num, HN.out _ E.out⟩
            case measure => simp [intOf]; omega
          · have E := Lib.hid (show fl k = 8 by unfold fl; rw [if_neg h1, if_neg h2, if_neg h3])
            go_wp2
            go_roundw
            case rel => exact ⟨k + 1, by omega, by go_num, HN.out _ E.out⟩
            case measure => simp [intOf]; omega
    · obtain rfl : k = 288 := by omega
      have H1 : Hid (Fix2 w fl (fun _ => 0) wr) := Lib.hid (hin.ext (fun i hi => if_pos hi) (fun _ _ => rfl))
      clear hin
      go_wp2_with fail
      go_loopw [5, 29] (fun _ i wr => ∃ k : Nat, k ≤ 32 ∧ i = .int .i64 k ∧ Fix2 w fl (fun i => if i < k then 5 else 0) wr) (fun _ i _ => 32 - (intOf i).toNat)
      case atStart => exact ⟨0, Nat.zero_le _, rfl, H1.out.ext (fun _ _ => rfl) (fun i _ => by simp)⟩
      case round =>
        obtain ⟨k, hk, rfl, hin⟩ := hrel
        by_cases hlt : k < 32
        · have c0 : wr.cell? ⟨w.heap.size + 1, k, none⟩ = some (.int .i64 (if k < k then 5 else 0)) := (hin.2.1.cell k).trans (rn_get _ _ k hlt)
          have f0 := hin.2.1.frozen k
          have HIn := Lib.hid hin; clear hin
          go_wp2
          go_roundw
          case rel =>
            refine ⟨k + 1, by omega, by go_num, (HIn.out.put2 k 5).ext (fun _ _ => rfl) (fun i _ => ?_)⟩
            by_cases h : i = k
            · subst h; rw [if_pos rfl, if_pos (by omega)]
            · rw [if_neg h]
              by_cases h2 : i < k
              · rw [if_pos h2, if_pos (by omega)]
              · rw [if_neg h2, if_neg (by omega)]
          case measure => simp [intOf]; omega
        · obtain rfl : k = 32 := by omega
          have H2 : Hid (Fix2 w fl (fun _ => 5) wr) := Lib.hid (hin.ext (fun _ _ => rfl) (fun i hi => if_pos hi))
          clear hin
          go_wp2_with fail
          go_still (by kernel_rfl)
          go_wp2_with fail
          go_ret2
          exact ⟨_, _, rfl, seen_rn (H2.out.1) (by rfl) fl_fix, seen_rn (H2.out.2.1) (by rfl) fd_fix, H2.out.2.2.drew⟩
end Go.Proofs.Ytobchlakjgeadaa
