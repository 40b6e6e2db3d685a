/-
  Contracts of prefix: counted, firstWords. Conditions: right lengths, at most a thousand.
-/
import Derived.Test.YtnnpiblnjflceaaK1
import Derived.Test.YtnnpiblnjflceaaZ2
import Derived.Deep.WholeRow
import Derived.RegionTactic
namespace Go.Proofs.Ytnnpiblnjflceaa
open Go.RowKit

theorem own_put {w : World} {base : Nat} {e : TypeId} {n g cap : Nat} {xs : List Value} (h : w.ownsRow base e 1 (.slice (some ⟨g, 0, none⟩) n cap) n xs) (i : Nat) (u : Value) : (w.setCell ⟨g, i, none⟩ u).ownsRow base e 1 (.slice (some ⟨g, 0, none⟩) n cap) n (xs.set i u) := by
  refine ⟨by simpa using h.1, ?_⟩
  rcases h.2 with ⟨hv, _⟩ | ⟨g', cap', cur, hv, hb, hh, h1, h2, h3, ht⟩
  · cases hv
  · injection hv with e1 e2 e3
    injection e1 with e1
    injection e1 with e1
    subst e1 e3
    refine .inr ⟨g, cap, cur.setIfInBounds i u, rfl, hb, (Whole.put (w := w) (t := e) (cs := cur) hh i u), h1, h2, by simpa using h3, ?_⟩
    simp only [Nat.mul_one] at ht ⊢
    rw [← ht]
    simp [List.take_set]
theorem own_cell {w : World} {base : Nat} {e : TypeId} {n g cap : Nat} {xs : List Value} (h : w.ownsRow base e 1 (.slice (some ⟨g, 0, none⟩) n cap) n xs) {i : Nat} {u : Value} (hu : xs[i]? = some u) : w.cell? ⟨g, i, none⟩ = some u ∧ w.frozen? ⟨g, i, none⟩ = false ∧ base ≤ g := by
  have hw := own_whole h (k := g) rfl
  obtain ⟨h1, cs, hW⟩ := hw
  refine ⟨?_, hW.frozen i, h1⟩
  have := (Seen.of_own h).2.2
  rcases this with ⟨h5, _⟩ | ⟨a, ha, h5⟩
  · cases h5
  · injection ha with ha
    subst ha
    have h6 := (h5 (by rintro rfl; simp at hu)).2.2 i u hu
    simpa using h6
theorem Whole.setRow {w : World} {g : Nat} {t : TypeId} {cs : Array Value} (h : Whole w g t cs) (cs' : Array Value) : Whole (w.setRow g cs') g t cs' := setRow_heap w g cs cs' t _ h
theorem Whole.setRow_far {w : World} {g g' : Nat} {t : TypeId} {cs : Array Value} (h : Whole w g t cs) (cs' : Array Value) (hne : g ≠ g') : Whole (w.setRow g' cs') g t cs := (setRow_other w g' g cs' hne).trans h
theorem below_setRow {B : Nat} {a w : World} (h : Below B a w) {g : Nat} (cs : Array Value) (hp : B ≤ g) : Below B a (w.setRow g cs) :=
  ⟨h.os, h.tape, h.output, by simpa using h.size, fun i hi => (setRow_other w g i cs (by omega)).trans (h.block i hi)⟩

/-- Sixteen numbers as an array. -/
def ra (f : Nat → Nat) : Array Value := Array.ofFn (n := 16) fun i => .int .i64 (f i.val : Nat)
@[simp] theorem ra_size (f : Nat → Nat) : (ra f).size = 16 := by simp [ra]
theorem ra_get (f : Nat → Nat) (i : Nat) (h : i < 16) : (ra f)[i]? = some (.int .i64 (f i : Nat)) := by
  rw [Array.getElem?_eq_getElem (by simpa using h)]
  simp [ra]
theorem ra_one (f : Nat → Nat) : (ra f).all (·.oneCell') = true := by
  rw [Array.all_eq_true]
  intro i h
  simp only [ra, Array.getElem_ofFn]
  rfl
theorem ra_ext (f g : Nat → Nat) (h : ∀ i, i < 16 → f i = g i) : ra f = ra g := by
  apply Array.ext
  · simp
  · intro i h1 h2
    simp only [ra, Array.getElem_ofFn]
    rw [h i (by simpa using h1)]
theorem ra_set (f : Nat → Nat) (k v : Nat) : (ra f).setIfInBounds k (.int .i64 (v : Nat)) = ra (fun i => if i = k then v else f i) := by
  apply Array.ext
  · simp
  · intro i h1 h2
    have h3 : i < (ra f).size := by simpa using h1
    rw [Array.getElem_setIfInBounds h3]
    simp only [ra, Array.getElem_ofFn]
    by_cases hi : k = i
    · subst hi; simp
    · rw [if_neg hi, if_neg (by omega)]

theorem row73 : (Try.prog.info? 102).map (fun i => (i.zero, i.size)) = some (some (.agg (Array.replicate 16 (.int .i64 0))), 16) := by kernel_rfl
theorem size73 : (Try.prog.info? 102).map (·.size) = some 16 := (zero_of_info row73).2
theorem built73 : Try.prog.built 102 [] = some (Array.replicate 16 (.int .i64 0)) := by kernel_rfl
theorem ra_zero : Array.replicate 16 (.int .i64 0) = ra (fun _ => 0) := by
  apply Array.ext
  · simp
  · intro i h1 h2
    simp [ra]
theorem zero73 (W : World) : (zeroValue 102).run Try.prog W = .ok (.agg (ra fun _ => 0)) W := by rw [← ra_zero]; exact (zero_of_info row73).1 W
theorem build73 (W : World) : (Instr.build 102 #[]).run Try.prog W = .ok (.agg (ra fun _ => 0)) W := by rw [← ra_zero]; exact run_build W 102 #[] _ built73
theorem info73 (f : Nat → Nat) : (Try.prog.info? 102).map (·.size) = some (ra f).size := by rw [ra_size]; exact size73

theorem new2 (w : World) (cs ds : Array Value) : ((w.alloc (.cells cs 102)).alloc (.cells ds 102)).heap[w.heap.size + 1]? = some (.cells ds 102 (0, 0)) := by
  have := heap_alloc_new (w.alloc (.cells cs 102)) (.cells ds 102)
  simpa using this

/-- What an array by value is given back as. -/
def GivesArr (w : World) (f : Nat → Nat) (e : Ending) (w' : World) : Prop := e = .returned (.agg (ra f)) ∧ Below w.heap.size w w'

/-- Two blocks: the result's, the array's own. -/
def Arr2 (w : World) (f : Nat → Nat) (wr : World) : Prop := Whole wr w.heap.size 102 (ra fun _ => 0) ∧ Whole wr (w.heap.size + 1) 102 (ra f) ∧ Below w.heap.size w wr

theorem arr2_start (w : World) (f : Nat → Nat) : Arr2 w f (((w.alloc (.cells (ra fun _ => 0) 102)).alloc (.cells (ra fun _ => 0) 102)).setRow (w.heap.size + 1) (ra f)) := by
  refine ⟨((Whole.new w 102 _).alloc _).setRow_far _ (by omega), Whole.setRow (cs := ra fun _ => 0) ?_ _, ?_⟩
  · have := Whole.new (w.alloc (.cells (ra fun _ => 0) 102)) 102 (ra fun _ => 0)
    simpa using this
  · exact below_setRow (((Below.refl _ _).alloc (Nat.le_refl _) _).alloc (by simp) _) _ (by omega)
theorem Arr2.put {w wr : World} {f : Nat → Nat} (h : Arr2 w f wr) (k v : Nat) : Arr2 w (fun i => if i = k then v else f i) (wr.setCell ⟨w.heap.size + 1, k, none⟩ (.int .i64 (v : Nat))) := by
  have h1 := h.2.1.put k (.int .i64 (v : Nat))
  rw [ra_set] at h1
  exact ⟨h.1.far (by simp) _, h1, h.2.2.setCell (by simp) _⟩
theorem Arr2.ext {w wr : World} {f g : Nat → Nat} (h : Arr2 w f wr) (he : ∀ i, i < 16 → f i = g i) : Arr2 w g wr := by
  rw [Arr2, ← ra_ext f g he]; exact h
theorem Arr2.drew {w wr : World} {f : Nat → Nat} (h : Arr2 w f wr) : Arr2 w f wr.drew := ⟨h.1.drew, h.2.1.drew, h.2.2.drew⟩

set_option maxHeartbeats 1000000 in
set_option maxRecDepth 100000 in
theorem counted_any (A : Option Addr) (n c B : Nat) (l : List Int) (hn : l.length = n) (hl : n ≤ 1000) (hok : Ok l) (w : World) (hs : Seen w B 1 A n c (iv l)) (hB : B ≤ w.heap.size) :
    Calls Try.prog 81 #[.slice A n c] w (GivesArr w fun i => ct i l) := by
  have HS := Lib.hid hs; clear hs
  have HN := Lib.hid hn; clear hn
  have HOK := Lib.hid hok; clear hok
  have hz := zero73
  have hb := build73
  have HI := Lib.hid info73
  go_enter Try.func81, Try.ntmps81
  go_wp2_with (with_reducible refine wpList_store_row rfl 102 (.tmp 3) (.tmp 6) rfl (w.heap.size + 1) (ra fun _ => 0) rfl rfl 102 (ra fun _ => 0) (new2 w _ _) (HI.out _) rfl (ra_one _) ?_)
  have h0 := arr2_start w (fun _ => 0)
  generalize ((w.alloc (.cells (ra fun _ => 0) 102)).alloc (.cells (ra fun _ => 0) 102)).setRow (w.heap.size + 1) (ra fun _ => 0) = W at *
  have H0 := Lib.hid h0; clear h0
  clear hz hb
  go_loopw [5, 9] (fun _ i wr => ∃ k : Nat, k ≤ n ∧ i = .int .i64 k ∧ Arr2 w (fun i => ct i (l.take k)) wr) (fun _ i _ => n - (intOf i).toNat)
  case atStart => exact ⟨0, Nat.zero_le _, rfl, H0.out⟩
  case round =>
    obtain ⟨k, hk, rfl, hin⟩ := hrel
    by_cases hlt : k < n
    · obtain ⟨b, o, rfl, _, hc⟩ := (HS.out.below (hin.2.2.mono hB)).int HN.out hlt
      have hkl : k < l.length := by have := HN.out; omega
      have E1 := Lib.hid (fun m => ct_take m l k hkl)
      have hx2 := HOK.out _ (List.getElem_mem hkl)
      obtain ⟨x, hx⟩ : ∃ x, l[k] = x := ⟨_, rfl⟩
      rw [hx] at hc hx2
      obtain ⟨m, rfl⟩ := Int.eq_ofNat_of_zero_le hx2.1
      have HX := Lib.hid hx; clear hx
      by_cases hm : 0 < m
      · have hm16 : m < 16 := by omega
        have hcm : wr.cell? ⟨w.heap.size + 1, m, none⟩ = some (.int .i64 (ct m (l.take k) : Nat)) := (hin.2.1.cell m).trans (ra_get _ m hm16)
        have hfm := hin.2.1.frozen m
        have HIn := Lib.hid hin; clear hin
        have hct : ct m (l.take k) ≤ 1000 := by have := ct_le m (l.take k); simp at this; omega
        generalize hCT : ct m (l.take k) = C at *
        have HC := Lib.hid hCT; clear hCT
        go_wp2
        go_roundw
        case rel =>
          refine ⟨k + 1, by omega, by go_num, ?_⟩
          have h1 := HIn.out.put m (C + 1)
          have e : (.int .i64 ((C : Int) + 1) : Value) = .int .i64 ((C + 1 : Nat) : Int) := by go_num
          rw [e]
          refine h1.ext fun i hi => ?_
          rw [E1.out i, HX.out]
          by_cases him : i = m
          · subst him; rw [if_pos rfl, if_pos ⟨rfl, by omega⟩, HC.out]
          · rw [if_neg him, if_neg (by omega)]
            rfl
        case measure => simp [intOf]; omega
      · obtain rfl : m = 0 := by omega
        have HIn := Lib.hid hin; clear hin
        go_wp2
        go_roundw
        case rel =>
          refine ⟨k + 1, by omega, by go_num, HIn.out.ext fun i hi => ?_⟩
          rw [E1.out i, HX.out, if_neg (by omega)]
          rfl
        case measure => simp [intOf]; omega
    · have HIn : Hid (Arr2 w (fun i => ct i l) wr) := Lib.hid (by rw [List.take_of_length_le (by have := HN.out; omega)] at hin; exact hin)
      clear hin
      go_wp2_with (first
        | (refine wpList_load_row rfl 102 (.tmp 3) rfl (w.heap.size + 1) rfl 102 (ra fun i => ct i l) (0, 0) _ HIn.out.2.1 Try.underlying102 rfl (HI.out _) ?_)
        | (refine wpList_store_row rfl 102 (.tmp 2) (.tmp 21) rfl w.heap.size (ra fun i => ct i l) rfl rfl 102 (ra fun _ => 0) HIn.out.1 (HI.out _) (by simp) (ra_one _) ?_))
      exact bodyPost_ret (v := .agg (ra fun i => ct i l)) (results_cell_row (p := 2) (ty := 102) rfl _ _ w.heap.size 102 (ra fun i => ct i l) (0, 0) _ rfl (HIn.out.1.setRow _) Try.underlying102 rfl (HI.out _)) rfl ⟨rfl, below_setRow HIn.out.2.2 _ (Nat.le_refl _)⟩
end Go.Proofs.Ytnnpiblnjflceaa
