/-
  Contracts of lengths.Kind and of the document's Weight and Kind. Conditions: at most a thousand lengths.
  Contracts of prefix: counted, firstWords. Conditions: right lengths, at most a thousand.
  Contracts of prefix: firstWords. Conditions: right lengths.
  Contracts of prefix: Words. Conditions: at most a thousand lengths.
  Contracts of prefix: inOrder. Conditions: right lengths, at most a thousand.
  A new code. Conditions: each theorem names the range of its arguments.
-/
import Derived.Test.YtkjhefjjacokjaaGreatF
import Derived.Test.YtkjhefjjacokjaaGreatZ4
import Derived.Deep.WholeRow
import Derived.RegionTactic
import Derived.OwnWalk
import Derived.Test.YtkjhefjjacokjaaGreatH
namespace Go.Proofs.YtkjhefjjacokjaaGreat
open Go.RowKit
/-- Integers as values. -/
def iv (l : List Int) : List Value := l.map (Value.int .i64)
@[simp] theorem iv_length (l : List Int) : (iv l).length = l.length := by simp [iv]
theorem iv_get? {l : List Int} {i : Nat} (h : i < l.length) : (iv l)[i]? = some (.int .i64 l[i]) := by simp [iv, h]
/-- An integer of a slice that is read. -/
theorem Seen.int {w : World} {B : Nat} {A : Option Addr} {n c : Nat} {l : List Int} (h : Seen w B 1 A n c (iv l)) (hn : l.length = n) {k : Nat} (hk : k < n) :
    ∃ b o, A = some ⟨b, o, none⟩ ∧ b < B ∧ w.cell? ⟨b, o + k, none⟩ = some (.int .i64 (l[k]'(by omega))) := by
  obtain ⟨b, o, u, h1, h2, h3, h4⟩ := h.at hk
  rw [iv_get? (by omega)] at h3
  injection h3 with h3
  subst h3
  exact ⟨b, o, h1, h2, h4⟩
theorem shr_wt (m : Nat) (h0 : 0 < m) (h1 : m ≤ 15) : ((32768 : Int) / 2 ^ m) = (wt m : Nat) := by
  have : m = 1 ∨ m = 2 ∨ m = 3 ∨ m = 4 ∨ m = 5 ∨ m = 6 ∨ m = 7 ∨ m = 8 ∨ m = 9 ∨ m = 10 ∨ m = 11 ∨ m = 12 ∨ m = 13 ∨ m = 14 ∨ m = 15 := by omega
  rcases this with rfl | rfl | rfl | rfl | rfl | rfl | rfl | rfl | rfl | rfl | rfl | rfl | rfl | rfl | rfl <;> decide
set_option maxHeartbeats 1000000 in
theorem kind_any (A : Option Addr) (n c B : Nat) (l : List Int) (hn : l.length = n) (hl : n ≤ 1000) (w : World) (hs : Seen w B 1 A n c (iv l)) :
    Calls Tryz.prog 112 #[.slice A n c] w fun e w' => e = .returned (.int .i64 (kindOf l : Nat)) ∧ w = w' := by
  have HS := Lib.hid hs; clear hs
  have HN := Lib.hid hn; clear hn
  go_enter Tryz.func112, Tryz.ntmps112
  go_wp2
  go_loop [3, 4, 9] (fun x y i => ∃ k : Nat, k ≤ n ∧ i = .int .i64 k ∧ x = .int .i64 (words (l.take k) : Nat) ∧ y = .int .i64 (weight (l.take k) : Nat) ∧ weight (l.take k) ≤ 32768 ∧ Ok (l.take k)) (fun _ _ i => n - (intOf i).toNat)
  case atStart => exact ⟨0, Nat.zero_le _, rfl, rfl, rfl, by simp [weight], by intro x hx; simp at hx⟩
  case round =>
    obtain ⟨k, hk, rfl, rfl, rfl, hw, hok⟩ := hrel
    have HOK := Lib.hid hok; clear hok
    have hwd : words (l.take k) ≤ 1000 := by have := words_le (l.take k); simp at this; omega
    by_cases hlt : k < n
    · obtain ⟨b, o, rfl, _, hc⟩ := HS.out.int HN.out hlt
      have hkl : k < l.length := by have := HN.out; omega
      have E1 := Lib.hid (weight_take l k hkl)
      have E2 := Lib.hid (words_take l k hkl)
      have E3 := Lib.hid (ok_take l k hkl)
      have E4 := Lib.hid (@not_ok l k hkl)
      have E5 := Lib.hid (kind_over l (k + 1))
      obtain ⟨x, hx⟩ : ∃ x, l[k] = x := ⟨_, rfl⟩
      rw [hx] at hc
      by_cases h0 : 0 ≤ x
      · by_cases h15 : x ≤ 15
        · obtain ⟨m, rfl⟩ := Int.eq_ofNat_of_zero_le h0
          have HX := Lib.hid hx; clear hx
          by_cases hm : 0 < m
          · have es := shr_wt m hm (by omega)
            have hwt := wt_lt m (by omega)
            generalize weight (l.take k) = W at *
            generalize words (l.take k) = V at *
            obtain ⟨u, hu⟩ : ∃ u, wt (m : Int) = u := ⟨_, rfl⟩
            rw [hu] at es hwt
            have HU := Lib.hid hu; clear hu
            by_cases hov : 32768 < W + u
            · go_wp2
              go_ret
              refine ⟨?_, rfl⟩
              rw [E5.out (by rw [E1.out, HX.out, HU.out]; exact hov)]
              rfl
            · have hov' : (W : Int) + u ≤ 32768 := by omega
              go_wp2
              go_round
              case rel =>
                refine ⟨k + 1, by omega, by go_num, ?_, ?_, ?_, ?_⟩
                · rw [E2.out, HX.out, if_neg (by omega)]; go_num
                · rw [E1.out, HX.out, HU.out]; go_num
                · rw [E1.out, HX.out, HU.out]; omega
                · rw [E3.out, HX.out]; exact ⟨HOK.out, by omega, by omega⟩
              case measure => simp [intOf]; omega
          · obtain rfl : m = 0 := by omega
            go_wp2
            go_round
            case rel =>
              refine ⟨k + 1, by omega, by go_num, ?_, ?_, ?_, ?_⟩
              · rw [E2.out, HX.out]; rfl
              · rw [E1.out, HX.out]; rfl
              · rw [E1.out, HX.out]; exact hw
              · rw [E3.out, HX.out]; exact ⟨HOK.out, by omega, by omega⟩
            case measure => simp [intOf]; omega
        · have hk0 : kindOf l = 0 := by unfold kindOf; rw [if_neg (E4.out (by rw [hx]; omega))]
          have HK := Lib.hid hk0; clear hk0
          have HX := Lib.hid hx; clear hx
          have h15' : decide (15 < x) = true := by simp; omega
          go_wp2
          go_ret
          exact ⟨by rw [HK.out]; rfl, rfl⟩
      · have hk0 : kindOf l = 0 := by unfold kindOf; rw [if_neg (E4.out (by rw [hx]; omega))]
        have HK := Lib.hid hk0; clear hk0
        have HX := Lib.hid hx; clear hx
        go_wp2
        go_ret
        exact ⟨by rw [HK.out]; rfl, rfl⟩
    · obtain rfl : k = n := by omega
      have e : l.take k = l := List.take_of_length_le (by have := HN.out; omega)
      rw [e] at hw HOK hwd ⊢
      have hK : kindOf l = if words l = 0 then 1 else if words l = 1 ∧ weight l = 16384 then 2 else if weight l = 32768 then 3 else 0 := by unfold kindOf; rw [if_pos HOK.out]
      have HK := Lib.hid hK; clear hK e
      generalize weight l = W at *
      generalize words l = V at *
      by_cases h0 : V = 0
      · subst h0
        go_wp2
        go_ret
        exact ⟨by rw [HK.out]; rfl, rfl⟩
      · by_cases h1 : V = 1
        · subst h1
          by_cases h2 : W = 16384
          · subst h2
            go_wp2
            go_ret
            exact ⟨by rw [HK.out]; rfl, rfl⟩
          · by_cases h3 : W = 32768
            · subst h3
              go_wp2
              go_ret
              exact ⟨by rw [HK.out]; rfl, rfl⟩
            · have d2 : ((W : Int) == 16384) = false := by simp; omega
              have d3 : ((W : Int) == 32768) = false := by simp; omega
              go_wp2
              go_ret
              exact ⟨by rw [HK.out]; simp [h2, h3], rfl⟩
        · have d1 : ((V : Int) == 1) = false := by simp; omega
          have d0 : ((V : Int) == 0) = false := by simp; omega
          by_cases h3 : W = 32768
          · subst h3
            go_wp2
            go_ret
            exact ⟨by rw [HK.out]; simp [h0, h1], rfl⟩
          · have d3 : ((W : Int) == 32768) = false := by simp; omega
            go_wp2
            go_ret
            exact ⟨by rw [HK.out]; simp [h0, h1, h3], rfl⟩
end Go.Proofs.YtkjhefjjacokjaaGreat

namespace Go.Proofs.YtkjhefjjacokjaaGreat
open Go.RowKit
theorem own_put {w : World} {base : Nat} {e : TypeId} {n g cap : Nat} {xs : List Value} (h : w.ownsRow base e 1 (.slice (some ⟨g, 0, none⟩) n cap) n xs) (i : Nat) (u : Value) : (w.setCell ⟨g, i, none⟩ u).ownsRow base e 1 (.slice (some ⟨g, 0, none⟩) n cap) n (xs.set i u) := by
  refine ⟨by simpa using h.1, ?_⟩
  rcases h.2 with ⟨hv, _⟩ | ⟨g', cap', cur, hv, hb, hh, h1, h2, h3, ht⟩
  · cases hv
  · injection hv with e1 e2 e3
    injection e1 with e1
    injection e1 with e1
    subst e1 e3
    refine .inr ⟨g, cap, cur.setIfInBounds i u, rfl, hb, (Whole.put (w := w) (t := e) (cs := cur) hh i u), h1, h2, by simpa using h3, ?_⟩
    simp only [Nat.mul_one] at ht ⊢
    rw [← ht]
    simp [List.take_set]
theorem own_cell {w : World} {base : Nat} {e : TypeId} {n g cap : Nat} {xs : List Value} (h : w.ownsRow base e 1 (.slice (some ⟨g, 0, none⟩) n cap) n xs) {i : Nat} {u : Value} (hu : xs[i]? = some u) : w.cell? ⟨g, i, none⟩ = some u ∧ w.frozen? ⟨g, i, none⟩ = false ∧ base ≤ g := by
  have hw := own_whole h (k := g) rfl
  obtain ⟨h1, cs, hW⟩ := hw
  refine ⟨?_, hW.frozen i, h1⟩
  have := (Seen.of_own h).2.2
  rcases this with ⟨h5, _⟩ | ⟨a, ha, h5⟩
  · cases h5
  · injection ha with ha
    subst ha
    have h6 := (h5 (by rintro rfl; simp at hu)).2.2 i u hu
    simpa using h6
theorem Whole.setRow {w : World} {g : Nat} {t : TypeId} {cs : Array Value} (h : Whole w g t cs) (cs' : Array Value) : Whole (w.setRow g cs') g t cs' := setRow_heap w g cs cs' t _ h
theorem Whole.setRow_far {w : World} {g g' : Nat} {t : TypeId} {cs : Array Value} (h : Whole w g t cs) (cs' : Array Value) (hne : g ≠ g') : Whole (w.setRow g' cs') g t cs := (setRow_other w g' g cs' hne).trans h
theorem below_setRow {B : Nat} {a w : World} (h : Below B a w) {g : Nat} (cs : Array Value) (hp : B ≤ g) : Below B a (w.setRow g cs) :=
  ⟨h.os, h.tape, h.output, by simpa using h.size, fun i hi => (setRow_other w g i cs (by omega)).trans (h.block i hi)⟩
/-- Sixteen numbers as an array. -/
def ra (f : Nat → Nat) : Array Value := Array.ofFn (n := 16) fun i => .int .i64 (f i.val : Nat)
@[simp] theorem ra_size (f : Nat → Nat) : (ra f).size = 16 := by simp [ra]
theorem ra_get (f : Nat → Nat) (i : Nat) (h : i < 16) : (ra f)[i]? = some (.int .i64 (f i : Nat)) := by
  rw [Array.getElem?_eq_getElem (by simpa using h)]
  simp [ra]
theorem ra_one (f : Nat → Nat) : (ra f).all (·.oneCell') = true := by
  rw [Array.all_eq_true]
  intro i h
  simp only [ra, Array.getElem_ofFn]
  rfl
theorem ra_ext (f g : Nat → Nat) (h : ∀ i, i < 16 → f i = g i) : ra f = ra g := by
  apply Array.ext
  · simp
  · intro i h1 h2
    simp only [ra, Array.getElem_ofFn]
    rw [h i (by simpa using h1)]
theorem ra_set (f : Nat → Nat) (k v : Nat) : (ra f).setIfInBounds k (.int .i64 (v : Nat)) = ra (fun i => if i = k then v else f i) := by
  apply Array.ext
  · simp
  · intro i h1 h2
    have h3 : i < (ra f).size := by simpa using h1
    rw [Array.getElem_setIfInBounds h3]
    simp only [ra, Array.getElem_ofFn]
    by_cases hi : k = i
    · subst hi; simp
    · rw [if_neg hi, if_neg (by omega)]
theorem row73 : (Tryz.prog.info? 123).map (fun i => (i.zero, i.size)) = some (some (.agg (Array.replicate 16 (.int .i64 0))), 16) := by kernel_rfl
theorem size73 : (Tryz.prog.info? 123).map (·.size) = some 16 := (zero_of_info row73).2
theorem built73 : Tryz.prog.built 123 [] = some (Array.replicate 16 (.int .i64 0)) := by kernel_rfl
theorem ra_zero : Array.replicate 16 (.int .i64 0) = ra (fun _ => 0) := by
  apply Array.ext
  · simp
  · intro i h1 h2
    simp [ra]
theorem zero73 (W : World) : (zeroValue 123).run Tryz.prog W = .ok (.agg (ra fun _ => 0)) W := by rw [← ra_zero]; exact (zero_of_info row73).1 W
theorem build73 (W : World) : (Instr.build 123 #[]).run Tryz.prog W = .ok (.agg (ra fun _ => 0)) W := by rw [← ra_zero]; exact run_build W 123 #[] _ built73
theorem info73 (f : Nat → Nat) : (Tryz.prog.info? 123).map (·.size) = some (ra f).size := by rw [ra_size]; exact size73
theorem new2 (w : World) (cs ds : Array Value) : ((w.alloc (.cells cs 123)).alloc (.cells ds 123)).heap[w.heap.size + 1]? = some (.cells ds 123 (0, 0)) := by
  have := heap_alloc_new (w.alloc (.cells cs 123)) (.cells ds 123)
  simpa using this
/-- What an array by value is given back as. -/
def GivesArr (w : World) (f : Nat → Nat) (e : Ending) (w' : World) : Prop := e = .returned (.agg (ra f)) ∧ Below w.heap.size w w'
/-- Two blocks: the result's, the array's own. -/
def Arr2 (w : World) (f : Nat → Nat) (wr : World) : Prop := Whole wr w.heap.size 123 (ra fun _ => 0) ∧ Whole wr (w.heap.size + 1) 123 (ra f) ∧ Below w.heap.size w wr
theorem arr2_start (w : World) (f : Nat → Nat) : Arr2 w f (((w.alloc (.cells (ra fun _ => 0) 123)).alloc (.cells (ra fun _ => 0) 123)).setRow (w.heap.size + 1) (ra f)) := by
  refine ⟨((Whole.new w 123 _).alloc _).setRow_far _ (by omega), Whole.setRow (cs := ra fun _ => 0) ?_ _, ?_⟩
  · have := Whole.new (w.alloc (.cells (ra fun _ => 0) 123)) 123 (ra fun _ => 0)
    simpa using this
  · exact below_setRow (((Below.refl _ _).alloc (Nat.le_refl _) _).alloc (by simp) _) _ (by omega)
theorem Arr2.put {w wr : World} {f : Nat → Nat} (h : Arr2 w f wr) (k v : Nat) : Arr2 w (fun i => if i = k then v else f i) (wr.setCell ⟨w.heap.size + 1, k, none⟩ (.int .i64 (v : Nat))) := by
  have h1 := h.2.1.put k (.int .i64 (v : Nat))
  rw [ra_set] at h1
  exact ⟨h.1.far (by simp) _, h1, h.2.2.setCell (by simp) _⟩
theorem Arr2.ext {w wr : World} {f g : Nat → Nat} (h : Arr2 w f wr) (he : ∀ i, i < 16 → f i = g i) : Arr2 w g wr := by
  rw [Arr2, ← ra_ext f g he]; exact h
theorem Arr2.drew {w wr : World} {f : Nat → Nat} (h : Arr2 w f wr) : Arr2 w f wr.drew := ⟨h.1.drew, h.2.1.drew, h.2.2.drew⟩
set_option maxHeartbeats 1000000 in
set_option maxRecDepth 100000 in
theorem counted_any (A : Option Addr) (n c B : Nat) (l : List Int) (hn : l.length = n) (hl : n ≤ 1000) (hok : Ok l) (w : World) (hs : Seen w B 1 A n c (iv l)) (hB : B ≤ w.heap.size) :
    Calls Tryz.prog 102 #[.slice A n c] w (GivesArr w fun i => ct i l) := by
  have HS := Lib.hid hs; clear hs
  have HN := Lib.hid hn; clear hn
  have HOK := Lib.hid hok; clear hok
  have hz := zero73
  have hb := build73
  have HI := Lib.hid info73
  go_enter Tryz.func102, Tryz.ntmps102
  go_wp2_with (with_reducible refine wpList_store_row rfl 123 (.tmp 3) (.tmp 6) rfl (w.heap.size + 1) (ra fun _ => 0) rfl rfl 123 (ra fun _ => 0) (new2 w _ _) (HI.out _) rfl (ra_one _) ?_)
  have h0 := arr2_start w (fun _ => 0)
  generalize ((w.alloc (.cells (ra fun _ => 0) 123)).alloc (.cells (ra fun _ => 0) 123)).setRow (w.heap.size + 1) (ra fun _ => 0) = W at *
  have H0 := Lib.hid h0; clear h0
  clear hz hb
  go_loopw [5, 9] (fun _ i wr => ∃ k : Nat, k ≤ n ∧ i = .int .i64 k ∧ Arr2 w (fun i => ct i (l.take k)) wr) (fun _ i _ => n - (intOf i).toNat)
  case atStart => exact ⟨0, Nat.zero_le _, rfl, H0.out⟩
  case round =>
    obtain ⟨k, hk, rfl, hin⟩ := hrel
    by_cases hlt : k < n
    · obtain ⟨b, o, rfl, _, hc⟩ := (HS.out.below (hin.2.2.mono hB)).int HN.out hlt
      have hkl : k < l.length := by have := HN.out; omega
      have E1 := Lib.hid (fun m => ct_take m l k hkl)
      have hx2 := HOK.out _ (List.getElem_mem hkl)
      obtain ⟨x, hx⟩ : ∃ x, l[k] = x := ⟨_, rfl⟩
      rw [hx] at hc hx2
      obtain ⟨m, rfl⟩ := Int.eq_ofNat_of_zero_le hx2.1
      have HX := Lib.hid hx; clear hx
      by_cases hm : 0 < m
      · have hm16 : m < 16 := by omega
        have hcm : wr.cell? ⟨w.heap.size + 1, m, none⟩ = some (.int .i64 (ct m (l.take k) : Nat)) := (hin.2.1.cell m).trans (ra_get _ m hm16)
        have hfm := hin.2.1.frozen m
        have HIn := Lib.hid hin; clear hin
        have hct : ct m (l.take k) ≤ 1000 := by have := ct_le m (l.take k); simp at this; omega
        generalize hCT : ct m (l.take k) = C at *
        have HC := Lib.hid hCT; clear hCT
        go_wp2
        go_roundw
        case rel =>
          refine ⟨k + 1, by omega, by go_num, ?_⟩
          have h1 := HIn.out.put m (C + 1)
          have e : (.int .i64 ((C : Int) + 1) : Value) = .int .i64 ((C + 1 : Nat) : Int) := by go_num
          rw [e]
          refine h1.ext fun i hi => ?_
          rw [E1.out i, HX.out]
          by_cases him : i = m
          · subst him; rw [if_pos rfl, if_pos ⟨rfl, by omega⟩, HC.out]
          · rw [if_neg him, if_neg (by omega)]
            rfl
        case measure => simp [intOf]; omega
      · obtain rfl : m = 0 := by omega
        have HIn := Lib.hid hin; clear hin
        go_wp2
        go_roundw
        case rel =>
          refine ⟨k + 1, by omega, by go_num, HIn.out.ext fun i hi => ?_⟩
          rw [E1.out i, HX.out, if_neg (by omega)]
          rfl
        case measure => simp [intOf]; omega
    · have HIn : Hid (Arr2 w (fun i => ct i l) wr) := Lib.hid (by rw [List.take_of_length_le (by have := HN.out; omega)] at hin; exact hin)
      clear hin
      go_wp2_with (first
        | (refine wpList_load_row rfl 123 (.tmp 3) rfl (w.heap.size + 1) rfl 123 (ra fun i => ct i l) (0, 0) _ HIn.out.2.1 Tryz.underlying123 rfl (HI.out _) ?_)
        | (refine wpList_store_row rfl 123 (.tmp 2) (.tmp 21) rfl w.heap.size (ra fun i => ct i l) rfl rfl 123 (ra fun _ => 0) HIn.out.1 (HI.out _) (by simp) (ra_one _) ?_))
      exact bodyPost_ret (v := .agg (ra fun i => ct i l)) (results_cell_row (p := 2) (ty := 123) rfl _ _ w.heap.size 123 (ra fun i => ct i l) (0, 0) _ rfl (HIn.out.1.setRow _) Tryz.underlying123 rfl (HI.out _)) rfl ⟨rfl, below_setRow HIn.out.2.2 _ (Nat.le_refl _)⟩
end Go.Proofs.YtkjhefjjacokjaaGreat

namespace Go.Proofs.YtkjhefjjacokjaaGreat
open Go.RowKit
/-- Three blocks: the argument's, the result's, the array's own. -/
def Arr3 (w : World) (c f : Nat → Nat) (wr : World) : Prop := Whole wr w.heap.size 123 (ra c) ∧ Whole wr (w.heap.size + 1) 123 (ra fun _ => 0) ∧ Whole wr (w.heap.size + 2) 123 (ra f) ∧ Below w.heap.size w wr
theorem new3 (w : World) (bs cs ds : Array Value) : (((w.alloc (.cells bs 123)).alloc (.cells cs 123)).alloc (.cells ds 123)).heap[w.heap.size + 2]? = some (.cells ds 123 (0, 0)) := by
  have := heap_alloc_new ((w.alloc (.cells bs 123)).alloc (.cells cs 123)) (.cells ds 123)
  simpa using this
theorem arr3_start (w : World) (c f : Nat → Nat) : Arr3 w c f ((((w.alloc (.cells (ra c) 123)).alloc (.cells (ra fun _ => 0) 123)).alloc (.cells (ra fun _ => 0) 123)).setRow (w.heap.size + 2) (ra f)) := by
  refine ⟨(((Whole.new w 123 _).alloc _).alloc _).setRow_far _ (by omega), ?_, Whole.setRow (cs := ra fun _ => 0) (new3 w _ _ _) _, ?_⟩
  · have := (Whole.new (w.alloc (.cells (ra c) 123)) 123 (ra fun _ => 0)).alloc (.cells (ra fun _ => 0) 123)
    have h := this.setRow_far (g' := w.heap.size + 2) (ra f) (by simp)
    simpa using h
  · exact below_setRow ((((Below.refl _ _).alloc (Nat.le_refl _) _).alloc (by simp) _).alloc (by simp; omega) _) _ (by omega)
theorem Arr3.put {w wr : World} {c f : Nat → Nat} (h : Arr3 w c f wr) (k v : Nat) : Arr3 w c (fun i => if i = k then v else f i) (wr.setCell ⟨w.heap.size + 2, k, none⟩ (.int .i64 (v : Nat))) := by
  have h1 := h.2.2.1.put k (.int .i64 (v : Nat))
  rw [ra_set] at h1
  exact ⟨h.1.far (by simp) _, h.2.1.far (by simp) _, h1, h.2.2.2.setCell (by simp) _⟩
theorem Arr3.ext {w wr : World} {c f g : Nat → Nat} (h : Arr3 w c f wr) (he : ∀ i, i < 16 → f i = g i) : Arr3 w c g wr := by
  rw [Arr3, ← ra_ext f g he]; exact h
theorem Arr3.drew {w wr : World} {c f : Nat → Nat} (h : Arr3 w c f wr) : Arr3 w c f wr.drew := ⟨h.1.drew, h.2.1.drew, h.2.2.1.drew, h.2.2.2.drew⟩
set_option maxHeartbeats 1000000 in
set_option maxRecDepth 100000 in
theorem firstWords_any (l : List Int) (hr : kindOf l ≠ 0) (w : World) :
    Calls Tryz.prog 113 #[.agg (ra fun i => ct i l)] w (GivesArr w fun i => fst l i) := by
  have HR := Lib.hid hr; clear hr
  have hz := zero73
  have hb := build73
  have HI := Lib.hid info73
  go_enter Tryz.func113, Tryz.ntmps113
  go_wp2_with (with_reducible refine wpList_store_row rfl 123 (.tmp 3) (.tmp 5) rfl (w.heap.size + 2) (ra fun _ => 0) rfl rfl 123 (ra fun _ => 0) (new3 w _ _ _) (HI.out _) rfl (ra_one _) ?_)
  have h0 := arr3_start w (fun i => ct i l) (fun _ => 0)
  generalize (((w.alloc (.cells (ra fun i => ct i l) 123)).alloc (.cells (ra fun _ => 0) 123)).alloc (.cells (ra fun _ => 0) 123)).setRow (w.heap.size + 2) (ra fun _ => 0) = W at *
  have H0 := Lib.hid h0; clear h0
  clear hz hb
  go_loopw [4] (fun i wr => ∃ k : Nat, 1 ≤ k ∧ k ≤ 16 ∧ i = .int .i64 k ∧ Arr3 w (fun i => ct i l) (fun i => if i < k then fst l i else 0) wr) (fun i _ => 16 - (intOf i).toNat)
  case atStart =>
    refine ⟨1, by omega, by omega, rfl, H0.out.ext fun i _ => ?_⟩
    by_cases h : i < 1
    · obtain rfl : i = 0 := by omega
      rfl
    · rw [if_neg h]
  case round =>
    obtain ⟨k, h1, h2, rfl, hin⟩ := hrel
    by_cases hlt : k < 16
    · obtain ⟨j, rfl⟩ : ∃ j, k = j + 1 := ⟨k - 1, by omega⟩
      have hj : j < 16 := by omega
      have hf : wr.cell? ⟨w.heap.size + 2, j, none⟩ = some (.int .i64 (fst l j : Nat)) := by
        have := (hin.2.2.1.cell j).trans (ra_get _ j hj)
        rwa [if_pos (by omega)] at this
      have ho : wr.cell? ⟨w.heap.size + 2, j + 1, none⟩ = some (.int .i64 (0 : Nat)) := by
        have := (hin.2.2.1.cell (j + 1)).trans (ra_get _ (j + 1) hlt)
        rwa [if_neg (by omega)] at this
      have hg := hin.2.2.1.frozen (j + 1)
      have hc : wr.cell? ⟨w.heap.size, j, none⟩ = some (.int .i64 (ct j l : Nat)) := (hin.1.cell j).trans (ra_get _ j hj)
      have hup := upTo_le HR.out j (by omega)
      have hp : 2 ^ j ≤ 32768 := Nat.pow_le_pow_right (n := 2) (i := j) (j := 15) (by omega) (by omega)
      have E : Hid (fst l (j + 1) = 2 * (fst l j + ct j l)) := Lib.hid rfl
      unfold upTo at hup
      generalize hp2 : 2 ^ j = p at *
      clear hp2
      have HIn := Lib.hid hin; clear hin
      generalize hF : fst l j = F at *
      generalize hC : ct j l = C at *
      clear hF hC
      have wj : IntKind.i64.wrap ((j + 1 : Nat) - 1 : Int) = j := by rw [IntWalk.i64_in _ (by omega)]; omega
      have wj' : (((j + 1 : Nat) : Int) - 1) = j := by omega
      have j0 : (0 : Int) ≤ j := by omega
      have j16 : (j : Int) < 16 := by omega
      have k0 : (0 : Int) ≤ ((j + 1 : Nat) : Int) := by omega
      have k16 : ((j + 1 : Nat) : Int) < 16 := by omega
      go_wp2
      go_region
      go_wp2
      go_roundw
      case rel =>
        refine ⟨j + 2, by omega, by omega, by go_num, ?_⟩
        have h3 := (HIn.out.put (j + 1) (2 * (F + C))).drew
        have e : (.int .i64 (2 * ((F : Int) + C)) : Value) = .int .i64 ((2 * (F + C) : Nat) : Int) := by go_num
        first | rw [e] | skip
        refine h3.ext fun i hi => ?_
        by_cases hi2 : i = j + 1
        · subst hi2; rw [if_pos rfl, if_pos (by omega), E.out]
        · rw [if_neg hi2]
          by_cases hi3 : i < j + 1
          · rw [if_pos hi3, if_pos (by omega)]
          · rw [if_neg hi3, if_neg (by omega)]
      case measure => simp [intOf]; omega
    · have HIn : Hid (Arr3 w (fun i => ct i l) (fun i => fst l i) wr) := Lib.hid (hin.ext fun i hi => by rw [if_pos (by omega)])
      clear hin
      go_wp2_with (first
        | (refine wpList_load_row rfl 123 (.tmp 3) rfl (w.heap.size + 2) rfl 123 (ra fun i => fst l i) (0, 0) _ HIn.out.2.2.1 Tryz.underlying123 rfl (HI.out _) ?_)
        | (refine wpList_store_row rfl 123 (.tmp 2) (.tmp 22) rfl (w.heap.size + 1) (ra fun i => fst l i) rfl rfl 123 (ra fun _ => 0) HIn.out.2.1 (HI.out _) (by simp) (ra_one _) ?_))
      exact bodyPost_ret (v := .agg (ra fun i => fst l i)) (results_cell_row (p := 2) (ty := 123) rfl _ _ (w.heap.size + 1) 123 (ra fun i => fst l i) (0, 0) _ rfl (HIn.out.2.1.setRow _) Tryz.underlying123 rfl (HI.out _)) rfl ⟨rfl, below_setRow HIn.out.2.2.2 _ (by omega)⟩
end Go.Proofs.YtkjhefjjacokjaaGreat

namespace Go.Proofs.YtkjhefjjacokjaaGreat
open Go.RowKit
/-- A row made place by place. -/
def mr (n : Nat) (f : Nat → Value) : List Value := (List.range n).map f
@[simp] theorem mr_length (n : Nat) (f : Nat → Value) : (mr n f).length = n := by simp [mr]
theorem mr_get (n : Nat) (f : Nat → Value) (i : Nat) (h : i < n) : (mr n f)[i]? = some (f i) := by simp [mr, h]
theorem mr_ext (n : Nat) (f g : Nat → Value) (h : ∀ i, i < n → f i = g i) : mr n f = mr n g := by
  unfold mr
  apply List.map_congr_left
  intro i hi
  exact h i (List.mem_range.1 hi)
theorem mr_set (n : Nat) (f : Nat → Value) (k : Nat) (v : Value) : (mr n f).set k v = mr n (fun i => if i = k then v else f i) := by
  apply List.ext_getElem?
  intro i
  by_cases h : i < n
  · rw [mr_get _ _ _ h, List.getElem?_set]
    by_cases hk : k = i
    · subst hk; simp [h]
    · rw [if_neg hk, if_neg (by omega), mr_get _ _ _ h]
  · rw [List.getElem?_eq_none (by simp; omega), List.getElem?_eq_none (by simp; omega)]
theorem mr_made (z : Value) (n : Nat) : (madeCells #[z] (n * 1)).toList = mr n (fun _ => z) := by
  rw [toList_madeCells_one, Nat.mul_one]
  apply List.ext_getElem?
  intro i
  by_cases h : i < n
  · rw [mr_get _ _ _ h]; simp [h]
  · rw [List.getElem?_eq_none (by simp; omega), List.getElem?_eq_none (by simp; omega)]
theorem u32_info : (Tryz.prog.info? 49).map (fun i => (i.zero, i.size, i.bytes)) = some (some (.int .u32 0), 1, 4) := by kernel_rfl
theorem int_info : (Tryz.prog.info? 3).map (fun i => (i.zero, i.size, i.bytes)) = some (some (.int .i64 0), 1, 8) := by kernel_rfl
/-- The words' row. -/
def wrow (l : List Int) (k n : Nat) : List Value := mr n fun j => .int .u32 (if j < k then wv l j else 0 : Nat)
def WordsRes (w : World) (l : List Int) (n : Nat) (e : Ending) (w' : World) : Prop :=
  ∃ v, e = .returned (.tuple #[v, .int .i64 0]) ∧ w'.ownsRow w.heap.size 49 1 v n (wrow l n n) ∧ Below w.heap.size w w'
/-- Within Words: the next words' block, the row. -/
def WordsIn (w : World) (l : List Int) (n g : Nat) (v : Value) (k : Nat) (wr : World) : Prop :=
  w.heap.size ≤ g ∧ Whole wr g 123 (ra fun i => fst l i + ct i (l.take k)) ∧ wr.ownsRow w.heap.size 49 1 v n (wrow l k n) ∧ Below w.heap.size w wr
set_option maxHeartbeats 1000000 in
set_option maxRecDepth 100000 in
theorem words_any (A : Option Addr) (n c B : Nat) (l : List Int) (hn : l.length = n) (hl : n ≤ 1000) (hr : kindOf l ≠ 0) (w : World) (hs : Seen w B 1 A n c (iv l)) (hB : B ≤ w.heap.size) :
    Calls Tryz.prog 101 #[.slice A n c] w (WordsRes w l n) := by
  obtain ⟨i0, hi0, hz0, hz1, hz2⟩ := info_parts u32_info
  have HK := Lib.hid (kind_any A n c B l hn hl w hs)
  have hk0 : ((kindOf l : Nat) : Int) ≠ 0 := by omega
  have dk : (((kindOf l : Nat) : Int) == 0) = false := by simpa using hk0
  have HOK := Lib.hid (right_ok hr)
  have HR := Lib.hid hr; clear hr hk0
  generalize kindOf l = kk at HK dk
  have HS := Lib.hid hs; clear hs
  have HN := Lib.hid hn; clear hn
  have hz := zero73
  have HI := Lib.hid info73
  have HZ0 := Lib.hid hz0; clear hz0
  have HZ1 := Lib.hid hz1; clear hz1
  have HZ2 := Lib.hid hz2; clear hz2
  have HI0 := Lib.hid hi0; clear hi0
  go_enter Tryz.func101, Tryz.ntmps101
  go_wp2_with (first
    | (go_at_call 112; refine HK.out.mono ?_; rintro e w1 ⟨rfl, rfl⟩)
    | (go_at_call 102; refine (counted_any A n c B l HN.out hl HOK.out _ HS.out hB).mono ?_; rintro e w1 ⟨rfl, hb1⟩)
    | (go_at_call 113; refine (firstWords_any l HR.out _).mono ?_; rintro e w2 ⟨rfl, hb2⟩)
    | (with_reducible refine wpList_store_row rfl 123 (.tmp 4) (.tmp 13) rfl w2.heap.size (ra fun i => fst l i) rfl rfl 123 (ra fun _ => 0) (heap_alloc_new w2 _) (HI.out _) (by simp) (ra_one _) ?_)
    | (refine wpList_make_full _ rfl (.tmp 15) (.tmp 15) 121 rfl w.heap.size 49 i0 _ 1 Tryz.underlying121 HI0.out HZ0.out HZ1.out .i64 .i64 n n n rfl rfl rfl rfl (by rw [HZ2.out]; omega) (by simp [maxLen]; omega) (by have := hb1.size; have := hb2.size; simp; omega) ?_; intro w3 hown hg3))
  have hs1 := hb1.size
  have hs2 := hb2.size
  have h0 : WordsIn w l n w2.heap.size (.slice (some ⟨w2.heap.size + 1, 0, none⟩) n n) 0 w3 := by
    refine ⟨by omega, ?_, ?_, ?_⟩
    · have h1 := ((Whole.new w2 123 (ra fun _ => 0)).setRow (ra fun i => fst l i)).grown hg3 (by simp)
      have e : (ra fun i => fst l i + ct i (l.take 0)) = ra fun i => fst l i := ra_ext _ _ fun i _ => by simp [ct]
      rw [e]; exact h1
    · have e : wrow l 0 n = (madeCells #[.int .u32 0] (n * 1)).toList := by
        rw [mr_made]; exact mr_ext _ _ _ fun i _ => by simp
      rw [e]
      have e2 : ((w2.alloc (Obj.cells (ra fun x => 0) 123)).setRow w2.heap.size (ra fun i => fst l i)).heap.size = w2.heap.size + 1 := by simp
      rw [e2] at hown
      exact hown
    · exact ((below_setRow (((hb1.trans (hb2.mono hs1))).alloc (by omega) _) _ (by omega)).grown hg3 (by simp; omega) (by simp))
  have H0 := Lib.hid h0; clear h0 hown hg3
  obtain ⟨g, hg⟩ : ∃ g, w2.heap.size = g := ⟨_, rfl⟩
  rw [hg] at H0 hs2 ⊢
  have hgw : w.heap.size ≤ g := by omega
  clear hg hz hb1 hb2 HK dk hs1 hs2
  go_loopw [6, 7, 19] (fun _ _ i wr => ∃ k : Nat, k ≤ n ∧ i = .int .i64 k ∧ WordsIn w l n g (.slice (some ⟨g + 1, 0, none⟩) n n) k wr) (fun _ _ i _ => n - (intOf i).toNat)
  case atStart => exact ⟨0, Nat.zero_le _, rfl, H0.out⟩
  case round =>
    obtain ⟨k, hk, rfl, hin⟩ := hrel
    by_cases hlt : k < n
    · obtain ⟨b, o, rfl, _, hc⟩ := (HS.out.below (hin.2.2.2.mono hB)).int HN.out hlt
      have hkl : k < l.length := by have := HN.out; omega
      have E1 := Lib.hid (fun m => ct_take m l k hkl)
      have EL := Lib.hid (len_eq HOK.out k hkl)
      have hl15 := len_le HOK.out k
      have hwv := wv_32768 HR.out k hkl
      have EV : Hid (wv l k = fst l (len l k) + ct (len l k) (l.take k)) := Lib.hid rfl
      rw [EL.out] at hc
      obtain ⟨m, hm⟩ : ∃ m, len l k = m := ⟨_, rfl⟩
      rw [hm] at hc hl15
      have HM := Lib.hid hm; clear hm
      by_cases hm0 : 0 < m
      · have hm16 : m < 16 := by omega
        have hcm : wr.cell? ⟨g, m, none⟩ = some (.int .i64 (wv l k : Nat)) := by
          have := (hin.2.1.cell m).trans (ra_get _ m hm16)
          rw [EV.out, HM.out]
          exact this
        have hfm := hin.2.1.frozen m
        obtain ⟨hck, hfk, _⟩ := own_cell hin.2.2.1 (i := k) (u := .int .u32 (0 : Nat)) (by
          unfold wrow; rw [mr_get _ _ _ hlt, if_neg (Nat.lt_irrefl _)])
        have HIn := Lib.hid hin; clear hin
        obtain ⟨x, hx⟩ : ∃ x, wv l k = x := ⟨_, rfl⟩
        rw [hx] at hcm hwv
        have HX := Lib.hid hx; clear hx
        have wx : IntKind.u32.wrap (x : Int) = x := IntWalk.u32_in _ (by omega)
        go_wp2
        go_roundw
        case rel =>
          refine ⟨k + 1, by omega, by go_num, HIn.out.1, ?_, ?_, ?_⟩
          · have h1 := (HIn.out.2.1.far (p := ⟨g + 1, k, none⟩) (by simp) (.int .u32 (x : Nat))).put m (.int .i64 ((x + 1 : Nat) : Int))
            rw [ra_set] at h1
            have e : (ra fun i => fst l i + ct i (l.take (k + 1))) = ra (fun i => if i = m then x + 1 else fst l i + ct i (l.take k)) := ra_ext _ _ fun i hi => by
              rw [E1.out i, EL.out, HM.out]
              by_cases him : i = m
              · subst him
                rw [if_pos rfl, if_pos ⟨rfl, by omega⟩, ← HX.out, EV.out, HM.out]; omega
              · rw [if_neg him, if_neg (by omega)]; rfl
            rw [e]
            exact h1
          · have h1 := own_put HIn.out.2.2.1 k (.int .u32 (x : Nat))
            have e : (wrow l k n).set k (.int .u32 (x : Nat)) = wrow l (k + 1) n := by
              unfold wrow
              rw [mr_set]
              exact mr_ext _ _ _ fun i hi => by
                by_cases h : i = k
                · subst h; rw [if_pos rfl, if_pos (by omega), HX.out]
                · rw [if_neg h]
                  by_cases h2 : i < k
                  · rw [if_pos h2, if_pos (by omega)]
                  · rw [if_neg h2, if_neg (by omega)]
            rw [e] at h1
            have hO : Only (fun q => q = g) (wr.setCell ⟨g + 1, k, none⟩ (.int .u32 (x : Nat))) ((wr.setCell ⟨g + 1, k, none⟩ (.int .u32 (x : Nat))).setCell ⟨g, m, none⟩ (.int .i64 ((x : Int) + 1))) := (Only.refl (fun q => q = g) _).setCell (p := ⟨g, m, none⟩) (.inl rfl) _
            exact own_only h1 hO (fun q hq => by simp [Value.ownBlock] at hq; omega)
          · exact (HIn.out.2.2.2.setCell (by show w.heap.size ≤ g + 1; omega) _).setCell hgw _
        case measure => simp [intOf]; omega
      · obtain rfl : m = 0 := by omega
        have HIn := Lib.hid hin; clear hin
        go_wp2
        go_roundw
        case rel =>
          refine ⟨k + 1, by omega, by go_num, HIn.out.1, ?_, ?_, HIn.out.2.2.2⟩
          · have e : (ra fun i => fst l i + ct i (l.take (k + 1))) = ra (fun i => fst l i + ct i (l.take k)) := ra_ext _ _ fun i hi => by
              rw [E1.out i, EL.out, HM.out, if_neg (by omega)]; rfl
            rw [e]; exact HIn.out.2.1
          · have e : wrow l (k + 1) n = wrow l k n := mr_ext _ _ _ fun i hi => by
              by_cases h : i = k
              · subst h; rw [if_pos (by omega), if_neg (by omega), wv_none l i HM.out]
              · by_cases h2 : i < k
                · rw [if_pos h2, if_pos (by omega)]
                · rw [if_neg h2, if_neg (by omega)]
            rw [e]; exact HIn.out.2.2.1
        case measure => simp [intOf]; omega
    · obtain rfl : k = n := by omega
      have HIn := Lib.hid hin; clear hin
      go_wp2
      go_ret2
      exact ⟨_, rfl, HIn.out.2.2.1, HIn.out.2.2.2⟩
end Go.Proofs.YtkjhefjjacokjaaGreat

namespace Go.Proofs.YtkjhefjjacokjaaGreat
open Go.RowKit
theorem run_index73 (R : Array Value) (k : Nat) (v : Value) (hk : k < 16) (hv : R[k]? = some v) (W : World) : (Instr.index 123 (.agg R) (.int .i64 k)).run Tryz.prog W = .ok v W := by
  have h2 : (0 : Int) ≤ k ∧ (k : Int) < 16 := by omega
  simp [Instr.index, asIntOf, go_sem, run_underlying Tryz.underlying123, h2, part, Tryz.sizeOf3, Tryz.isAgg3, hv]
  omega
/-- The signs' row. -/
def srow (l : List Int) (k : Nat) : List Value := mr (words l) fun p => .int .i64 (sg l k p : Nat)
def OrderRes (w : World) (l : List Int) (e : Ending) (w' : World) : Prop :=
  ∃ v, e = .returned v ∧ w'.ownsRow w.heap.size 3 1 v (words l) (srow l l.length) ∧ Below w.heap.size w w'
/-- Two blocks: the counts', the places'. -/
def Ord2 (w : World) (c f : Nat → Nat) (wr : World) : Prop := Whole wr w.heap.size 123 (ra c) ∧ Whole wr (w.heap.size + 1) 123 (ra f) ∧ Below w.heap.size w wr
theorem ord2_start (w : World) (c f : Nat → Nat) : Ord2 w c f (((w.alloc (.cells (ra c) 123)).alloc (.cells (ra fun _ => 0) 123)).setRow (w.heap.size + 1) (ra f)) := by
  refine ⟨((Whole.new w 123 _).alloc _).setRow_far _ (by omega), Whole.setRow (cs := ra fun _ => 0) (new2 w _ _) _, ?_⟩
  exact below_setRow (((Below.refl _ _).alloc (Nat.le_refl _) _).alloc (by simp) _) _ (by omega)
theorem Ord2.put {w wr : World} {c f : Nat → Nat} (h : Ord2 w c f wr) (k v : Nat) : Ord2 w c (fun i => if i = k then v else f i) (wr.setCell ⟨w.heap.size + 1, k, none⟩ (.int .i64 (v : Nat))) := by
  have h1 := h.2.1.put k (.int .i64 (v : Nat))
  rw [ra_set] at h1
  exact ⟨h.1.far (by simp) _, h1, h.2.2.setCell (by simp) _⟩
theorem Ord2.ext {w wr : World} {c f g : Nat → Nat} (h : Ord2 w c f wr) (he : ∀ i, i < 16 → f i = g i) : Ord2 w c g wr := by
  rw [Ord2, ← ra_ext f g he]; exact h
/-- Within inOrder: the places' block, the row. -/
def OrderIn (w : World) (l : List Int) (v : Value) (k : Nat) (wr : World) : Prop :=
  Whole wr (w.heap.size + 1) 123 (ra fun i => bas l i + ct i (l.take k)) ∧ wr.ownsRow w.heap.size 3 1 v (words l) (srow l k) ∧ Below w.heap.size w wr
set_option maxHeartbeats 1000000 in
set_option maxRecDepth 100000 in
theorem inOrder_any (A : Option Addr) (n c B : Nat) (l : List Int) (hn : l.length = n) (hl : n ≤ 1000) (hok : Ok l) (w : World) (hs : Seen w B 1 A n c (iv l)) (hB : B ≤ w.heap.size) :
    Calls Tryz.prog 103 #[.slice A n c, .agg (ra fun i => ct i l)] w (OrderRes w l) := by
  obtain ⟨i0, hi0, hz0, hz1, hz2⟩ := info_parts int_info
  have HS := Lib.hid hs; clear hs
  have HN := Lib.hid hn; clear hn
  have HOK := Lib.hid hok; clear hok
  have hwords : words l ≤ 1000 := by have := words_le l; have := HN.out; omega
  have hz := zero73
  have hb := build73
  have HI := Lib.hid info73
  have HZ0 := Lib.hid hz0; clear hz0
  have HZ1 := Lib.hid hz1; clear hz1
  have HZ2 := Lib.hid hz2; clear hz2
  have HI0 := Lib.hid hi0; clear hi0
  go_enter Tryz.func103, Tryz.ntmps103
  go_wp2_with (first
    | (with_reducible refine wpList_store_row rfl 123 (.tmp 5) (.tmp 12) rfl (w.heap.size + 1) (ra fun _ => 0) rfl rfl 123 (ra fun _ => 0) (new2 w _ _) (HI.out _) rfl (ra_one _) ?_)
    | (refine wpList_load_row rfl 123 (.tmp 3) rfl w.heap.size rfl 123 (ra fun i => ct i l) (0, 0) _ (ord2_start w _ _).1 Tryz.underlying123 rfl (HI.out _) ?_))
  have h0 := ord2_start w (fun i => ct i l) (fun _ => 0)
  generalize ((w.alloc (.cells (ra fun i => ct i l) 123)).alloc (.cells (ra fun _ => 0) 123)).setRow (w.heap.size + 1) (ra fun _ => 0) = W at *
  have H0 := Lib.hid h0; clear h0
  clear hz hb
  go_loopw [6, 7, 8, 14] (fun a _ _ i wr => ∃ k : Nat, k ≤ 16 ∧ i = .int .i64 k ∧ a = .int .i64 (bas l k : Nat) ∧ Ord2 w (fun i => ct i l) (fun i => if i < k then bas l i else 0) wr) (fun _ _ _ i _ => 16 - (intOf i).toNat)
  case atStart => exact ⟨0, Nat.zero_le _, rfl, rfl, H0.out.ext fun i _ => by rw [if_neg (Nat.not_lt_zero _)]⟩
  case round =>
    obtain ⟨k, h2, rfl, rfl, hin⟩ := hrel
    by_cases hlt : k < 16
    · have hc := ra_get (fun i => ct i l) k hlt
      have hf := hin.2.1.frozen k
      have ho : wr.cell? ⟨w.heap.size + 1, k, none⟩ = some (.int .i64 (0 : Nat)) := by
        have := (hin.2.1.cell k).trans (ra_get _ k hlt)
        rwa [if_neg (by omega)] at this
      have hb1 : bas l (k + 1) ≤ 1000 := by
        have h3 := bas_mono l (show k + 1 ≤ 16 by omega)
        rw [bas_words l HOK.out] at h3
        omega
      have E : Hid (bas l (k + 1) = bas l k + ct k l) := Lib.hid rfl
      rw [E.out] at hb1
      have HIn := Lib.hid hin; clear hin
      have HC := Lib.hid hc; clear hc
      generalize hF : bas l k = F at *
      have HF := Lib.hid hF; clear hF
      obtain ⟨C, hC⟩ : ∃ C, ct k l = C := ⟨_, rfl⟩
      have hc : (ra fun i => ct i l)[k]? = some (.int .i64 (C : Nat)) := by rw [← hC]; exact HC.out
      rw [hC] at hb1 E
      clear hC HC
      obtain ⟨R, hR⟩ : ∃ R, (ra fun i => ct i l) = R := ⟨_, rfl⟩
      rw [hR] at hc ⊢
      have hix := run_index73 R k _ hlt hc
      have HR := Lib.hid hR; clear hR hc
      go_wp2
      go_roundw
      case rel =>
        refine ⟨k + 1, by omega, by go_num, by rw [E.out]; go_num, ?_⟩
        have h3 := HIn.out.put k F
        refine h3.ext fun i hi => ?_
        by_cases hi2 : i = k
        · subst hi2; rw [if_pos rfl, if_pos (by omega), HF.out]
        · rw [if_neg hi2]
          by_cases hi3 : i < k
          · rw [if_pos hi3, if_pos (by omega)]
          · rw [if_neg hi3, if_neg (by omega)]
      case measure => simp [intOf]; omega
    · have hk16 : Hid (k = 16) := Lib.hid (by omega)
      have ek : Hid (bas l k = words l) := Lib.hid (by rw [hk16.out, bas_words l HOK.out])
      have HIn : Hid (Ord2 w (fun i => ct i l) (fun i => bas l i) wr) := Lib.hid (hin.ext fun i hi => by rw [if_pos (by have := hk16.out; omega)])
      clear hin
      rw [ek.out]
      have hsz : w.heap.size + 2 ≤ wr.heap.size := by have := HIn.out.2.1.lt; omega
      generalize hV : words l = V at hwords ⊢
      have HV := Lib.hid hV; clear hV
      go_wp2_with (refine wpList_make_full _ rfl (.tmp 25) (.tmp 25) 54 rfl w.heap.size 3 i0 _ 1 Tryz.underlying54 HI0.out HZ0.out HZ1.out .i64 .i64 V V V rfl rfl rfl rfl (by rw [HZ2.out]; omega) (by simp [maxLen]; omega) (by omega) ?_; intro w3 hown hg3)
      have h1 : OrderIn w l (.slice (some ⟨wr.heap.size, 0, none⟩) V V) 0 w3 := by
        refine ⟨?_, ?_, HIn.out.2.2.grown hg3 (by omega) (by simp)⟩
        · have h1 := HIn.out.2.1.grown hg3 (by simp)
          have e : (ra fun i => bas l i + ct i (l.take 0)) = ra fun i => bas l i := ra_ext _ _ fun i _ => by simp [ct]
          rw [e]; exact h1
        · have e : srow l 0 = (madeCells #[.int .i64 0] (V * 1)).toList := by
            rw [mr_made]; unfold srow; rw [HV.out]; exact mr_ext _ _ _ fun i _ => by simp [sg]
          rw [e, HV.out]
          exact hown
      have H1 := Lib.hid h1; clear h1 hown hg3
      obtain ⟨g, hg⟩ : ∃ g, wr.heap.size = g := ⟨_, rfl⟩
      rw [hg] at H1 hsz ⊢
      clear hg
      go_loopw [10, 11, 29] (fun _ _ i wr => ∃ k : Nat, k ≤ n ∧ i = .int .i64 k ∧ OrderIn w l (.slice (some ⟨g, 0, none⟩) V V) k wr) (fun _ _ i _ => n - (intOf i).toNat)
      case atStart => exact ⟨0, Nat.zero_le _, rfl, H1.out⟩
      case round =>
        obtain ⟨k, hk, rfl, hin⟩ := hrel
        by_cases hlt : k < n
        · obtain ⟨b, o, rfl, _, hc⟩ := (HS.out.below (hin.2.2.mono hB)).int HN.out hlt
          have hkl : k < l.length := by have := HN.out; omega
          have E1 := Lib.hid (fun m => ct_take m l k hkl)
          have EL := Lib.hid (len_eq HOK.out k hkl)
          have hl15 := len_le HOK.out k
          have EV : Hid (pos l k = bas l (len l k) + ct (len l k) (l.take k)) := Lib.hid rfl
          have EP := Lib.hid (pos_lt HOK.out k hkl)
          rw [EL.out] at hc
          obtain ⟨m, hm⟩ : ∃ m, len l k = m := ⟨_, rfl⟩
          rw [hm] at hc hl15
          have HM := Lib.hid hm; clear hm
          by_cases hm0 : 0 < m
          · have hm16 : m < 16 := by omega
            have hpos : pos l k < V := by have := EP.out (by rw [HM.out]; omega); rwa [HV.out] at this
            have hcm : wr.cell? ⟨w.heap.size + 1, m, none⟩ = some (.int .i64 (pos l k : Nat)) := by
              have := (hin.1.cell m).trans (ra_get _ m hm16)
              rw [EV.out, HM.out]
              exact this
            have hfm := hin.1.frozen m
            obtain ⟨u, hu⟩ : ∃ u, (srow l k)[pos l k]? = some u := ⟨_, by unfold srow; rw [HV.out]; exact mr_get _ _ _ hpos⟩
            obtain ⟨hck, hfk, _⟩ := own_cell (by have := hin.2.1; rw [HV.out] at this; exact this) hu
            have HIn := Lib.hid hin; clear hin
            obtain ⟨x, hx⟩ : ∃ x, pos l k = x := ⟨_, rfl⟩
            rw [hx] at hcm hpos hck hfk
            have HX := Lib.hid hx; clear hx hu
            go_wp2
            go_roundw
            case rel =>
              refine ⟨k + 1, by omega, by go_num, ?_, ?_, ?_⟩
              · have h1 := (HIn.out.1.far (p := ⟨g, x, none⟩) (by simp; omega) (.int .i64 (k : Nat))).put m (.int .i64 ((x + 1 : Nat) : Int))
                rw [ra_set] at h1
                have e : (ra fun i => bas l i + ct i (l.take (k + 1))) = ra (fun i => if i = m then x + 1 else bas l i + ct i (l.take k)) := ra_ext _ _ fun i hi => by
                  rw [E1.out i, EL.out, HM.out]
                  by_cases him : i = m
                  · subst him
                    rw [if_pos rfl, if_pos ⟨rfl, by omega⟩, ← HX.out, EV.out, HM.out]; omega
                  · rw [if_neg him, if_neg (by omega)]; rfl
                rw [e]
                exact h1
              · have h1 := own_put (by have := HIn.out.2.1; rw [HV.out] at this; exact this) x (.int .i64 (k : Nat))
                have e : (srow l k).set x (.int .i64 (k : Nat)) = srow l (k + 1) := by
                  unfold srow
                  rw [mr_set]
                  exact mr_ext _ _ _ fun i hi => by
                    simp only [sg, HM.out, HX.out]
                    by_cases h : i = x
                    · rw [if_pos h, if_pos ⟨by omega, h⟩]
                    · rw [if_neg h, if_neg (fun h2 => h h2.2)]
                rw [e] at h1
                have hO : Only (fun q => q = w.heap.size + 1) (wr.setCell ⟨g, x, none⟩ (.int .i64 (k : Nat))) ((wr.setCell ⟨g, x, none⟩ (.int .i64 (k : Nat))).setCell ⟨w.heap.size + 1, m, none⟩ (.int .i64 ((x : Int) + 1))) := (Only.refl (fun q => q = w.heap.size + 1) _).setCell (p := ⟨w.heap.size + 1, m, none⟩) (.inl rfl) _
                have h2 := own_only h1 hO (fun q hq => by simp [Value.ownBlock] at hq; omega)
                rw [HV.out]
                exact h2
              · exact (HIn.out.2.2.setCell (by show w.heap.size ≤ g; omega) _).setCell (by show w.heap.size ≤ w.heap.size + 1; omega) _
            case measure => simp [intOf]; omega
          · obtain rfl : m = 0 := by omega
            have HIn := Lib.hid hin; clear hin
            go_wp2
            go_roundw
            case rel =>
              refine ⟨k + 1, by omega, by go_num, ?_, ?_, HIn.out.2.2⟩
              · have e : (ra fun i => bas l i + ct i (l.take (k + 1))) = ra (fun i => bas l i + ct i (l.take k)) := ra_ext _ _ fun i hi => by
                  rw [E1.out i, EL.out, HM.out, if_neg (by omega)]; rfl
                rw [e]; exact HIn.out.1
              · have e : srow l (k + 1) = srow l k := mr_ext _ _ _ fun i hi => by
                  simp only [sg, HM.out, ne_eq, not_true_eq_false, false_and, if_false]
                rw [e]; exact HIn.out.2.1
            case measure => simp [intOf]; omega
        · obtain rfl : k = n := by omega
          have HIn := Lib.hid hin; clear hin
          go_wp2
          go_ret
          refine ⟨_, rfl, ?_, HIn.out.2.2⟩
          rw [HN.out]
          exact HIn.out.2.1
end Go.Proofs.YtkjhefjjacokjaaGreat

namespace Go.Proofs.YtkjhefjjacokjaaGreat
open Go.RowKit
set_option maxRecDepth 100000
theorem cloneInt_any (A : Option Addr) (n c B : Nat) (xs : List Value) (w : World) (hs : Seen w B 1 A n c xs) (hB : B ≤ w.heap.size) (h1 : ∀ u ∈ xs, u.oneCell' = true) (hn : n ≤ 1000000) :
    Calls Tryz.prog 94 #[.slice A n c] w (GivesRow w 3 1 n xs) := by
  obtain ⟨i0, hi0, hz0, hz1, hz2⟩ := info_parts int_info
  have HS := Lib.hid hs
  have q33 : ∀ (w : World) (a : Option Addr) (n c n' c' : Nat), (binOp .eql 54 (.slice a n c) (.slice none n' c')).run Tryz.prog w = .ok (.bool a.isNone) w := fun w a n c n' c' => Lib.run_eql_slice_nil w _ _ a n c n' c' Tryz.underlying54
  cases A with
  | none =>
    obtain ⟨g1, g2, g3⟩ := hs
    obtain rfl : c = 0 := by simpa using g3
    obtain rfl : n = 0 := by omega
    obtain rfl : xs = [] := List.eq_nil_of_length_eq_zero (by simpa using g1)
    clear g1 g2 g3
    go_enter Tryz.func94, Tryz.ntmps94
    go_wp2
    go_ret
    exact ⟨_, rfl, World.ownsRow_nil _ _ _ _, Below.refl _ _⟩
  | some a =>
    clear hs
    have H1 := Lib.hid h1; clear h1
    go_enter Tryz.func94, Tryz.ntmps94
    go_wp2_with (at_builtin; refine wpList_append_seen _ rfl (.tmp 5) (.tmp 6) _ rfl w.heap.size 3 i0 _ 1 8 Tryz.underlying54 hi0 hz0 hz1 hz2 rfl (by omega) (.slice (some ⟨w.heap.size, 0, none⟩) 0 0) 0 [] rfl (World.ownsRow_made w #[] 0 (Nat.le_refl _) (by simp [maxLen]) rfl) B (some a) n c xs rfl (HS.out.below ((Below.refl _ _).alloc hB _)) H1.out (by simp [maxLen]; omega) (by omega) (by simp) ?_; intro v1 w1 hown1 hg1 hat1)
    go_ret
    refine ⟨_, rfl, by simpa using hown1, ((Below.refl _ _).alloc (Nat.le_refl _) _).grown hg1 (by simp) (by simp [Value.ownBlock])⟩
theorem exec_load_of {o : Oper} {ρ : Operand → Value} {w : World} {ty : TypeId} {x : Operand} {g : Nat} {v : Value} (lv : (loadVar ty ⟨g, 0, none⟩).run Tryz.prog w = .ok v w) (ho : o.op = .load ty x) (hx : ρ x = .pointer (some ⟨g, 0, none⟩)) :
    (execOp ρ o).run Tryz.prog w = .ok (.value v) w := by
  unfold execOp
  simp only [ho, hx, Instr.loadAt, Instr.sureAddr, Sem.run_bind, Sem.run_pure, Result.andThen_ok, lv]
/-- A code's cells. -/
def cc (l : List Int) (n : Nat) (A1 : Option Addr) (c1 : Nat) (A2 : Option Addr) (c2 : Nat) (A3 : Option Addr) (c3 : Nat) : Array Value :=
  #[.slice A1 n c1, .slice A2 n c2] ++ ra (fun i => ct i l) ++ #[.slice A3 (words l) c3]
/-- A code stands at block g. -/
def CodeAt (w : World) (B g : Nat) (l : List Int) (n : Nat) : Prop :=
  ∃ A1 c1 A2 c2 A3 c3, Whole w g 125 (cc l n A1 c1 A2 c2 A3 c3) ∧ g < B ∧ B ≤ w.heap.size ∧ Seen w B 1 A1 n c1 (iv l) ∧ Seen w B 1 A2 n c2 (wrow l n n) ∧ Seen w B 1 A3 (words l) c3 (srow l n)
theorem built79 (l : List Int) (n : Nat) (A1 : Option Addr) (c1 : Nat) (A2 : Option Addr) (c2 : Nat) (A3 : Option Addr) (c3 : Nat) :
    Tryz.prog.built 125 [(0, .slice A1 n c1), (1, .slice A2 n c2), (2, .agg (ra (fun i => ct i l))), (3, .slice A3 (words l) c3)] = some (cc l n A1 c1 A2 c2 A3 c3) := by kernel_rfl
theorem build79 (l : List Int) (n : Nat) (A1 : Option Addr) (c1 : Nat) (A2 : Option Addr) (c2 : Nat) (A3 : Option Addr) (c3 : Nat) (W : World) :
    (Instr.build 125 #[(0, .slice A1 n c1), (1, .slice A2 n c2), (2, .agg (ra (fun i => ct i l))), (3, .slice A3 (words l) c3)]).run Tryz.prog W = .ok (.agg (cc l n A1 c1 A2 c2 A3 c3)) W :=
  run_build W 125 _ _ (by simpa using built79 l n A1 c1 A2 c2 A3 c3)
theorem exec_build_of {o : Oper} {ρ : Operand → Value} {w : World} {t : TypeId} {ps : Array (Nat × Operand)} {qs : Array (Nat × Value)} {v : Value} (lv : (Instr.build t qs).run Tryz.prog w = .ok v w) (ho : o.op = .build t ps) (hx : (ps.map fun (i, x) => (i, ρ x)) = qs) :
    (execOp ρ o).run Tryz.prog w = .ok (.value v) w := by
  unfold execOp
  simp only [ho, hx, Sem.run_bind, Sem.run_pure, Result.andThen_ok, lv]
theorem CodeAt.below {w w' : World} {B g : Nat} {l : List Int} {n : Nat} (h : CodeAt w B g l n) (hb : Below B w w') : CodeAt w' B g l n := by
  obtain ⟨A1, c1, A2, c2, A3, c3, h1, h2, h3, h4, h5, h6⟩ := h
  exact ⟨A1, c1, A2, c2, A3, c3, (hb.block g h2).trans h1, h2, Nat.le_trans h3 hb.size, h4.below hb, h5.below hb, h6.below hb⟩
/-- A code stands at block g; all of it is its own, from block lo on. -/
def CodeOwn (w : World) (lo g : Nat) (l : List Int) (n : Nat) : Prop :=
  ∃ A1 c1 A2 c2 A3 c3, Whole w g 125 (cc l n A1 c1 A2 c2 A3 c3) ∧ lo ≤ g ∧ w.ownsRow lo 3 1 (.slice A1 n c1) n (iv l) ∧ w.ownsRow lo 49 1 (.slice A2 n c2) n (wrow l n n) ∧ w.ownsRow lo 3 1 (.slice A3 (words l) c3) (words l) (srow l n)
theorem CodeOwn.seen {w : World} {lo g : Nat} {l : List Int} {n : Nat} (h : CodeOwn w lo g l n) : CodeAt w w.heap.size g l n := by
  obtain ⟨A1, c1, A2, c2, A3, c3, h1, h2, h3, h4, h5⟩ := h
  exact ⟨A1, c1, A2, c2, A3, c3, h1, h1.lt, Nat.le_refl _, Seen.of_own h3, Seen.of_own h4, Seen.of_own h5⟩
theorem CodeOwn.only {w w' : World} {lo g : Nat} {l : List Int} {n : Nat} {S : Nat → Prop} (h : CodeOwn w lo g l n) (ho : Only S w w') (hS : ∀ k, S k → k < w.heap.size → ∃ t cs, Whole w k t cs ∧ t ≠ 125 ∧ t ≠ 3 ∧ t ≠ 49) : CodeOwn w' lo g l n := by
  obtain ⟨A1, c1, A2, c2, A3, c3, h1, h2, h3, h4, h5⟩ := h
  have row : ∀ {e : TypeId} {v : Value} {m : Nat} {xs : List Value}, w.ownsRow lo e 1 v m xs → (e = 3 ∨ e = 49) → w'.ownsRow lo e 1 v m xs := by
    intro e v m xs hr he
    refine own_only hr ho (fun k hk hs => ?_)
    obtain ⟨_, cs', hw⟩ := own_whole hr hk
    obtain ⟨t, cs, ht, t1, t2, t3⟩ := hS k hs hw.lt
    rcases he with rfl | rfl
    · exact hw.ne ht (Ne.symm t2) rfl
    · exact hw.ne ht (Ne.symm t3) rfl
  refine ⟨A1, c1, A2, c2, A3, c3, h1.only ho (fun hs => ?_), h2, row h3 (.inl rfl), row h4 (.inr rfl), row h5 (.inl rfl)⟩
  obtain ⟨t, cs, ht, t1, t2, t3⟩ := hS g hs h1.lt
  exact h1.ne ht (Ne.symm t1) rfl
theorem CodeOwn.below {w w' : World} {lo g : Nat} {l : List Int} {n : Nat} (h : CodeOwn w lo g l n) (hb : Below w.heap.size w w') : CodeOwn w' lo g l n := h.only (S := Nob) (Only.of_below hb _) (fun _ h => h.elim)
def NewRes (w : World) (l : List Int) (n : Nat) (e : Ending) (w' : World) : Prop :=
  ∃ g, e = .returned (.tuple #[.pointer (some ⟨g, 0, none⟩), .int .i64 0]) ∧ CodeOwn w' w.heap.size g l n ∧ Below w.heap.size w w'
theorem iv_one (l : List Int) : ∀ u ∈ iv l, u.oneCell' = true := by
  intro u hu
  simp only [iv, List.mem_map] at hu
  obtain ⟨a, _, rfl⟩ := hu
  rfl
set_option maxHeartbeats 2000000 in
set_option maxRecDepth 100000 in
theorem new_any (A : Option Addr) (n c B : Nat) (l : List Int) (hn : l.length = n) (hl : n ≤ 1000) (hr : kindOf l ≠ 0) (w : World) (hs : Seen w B 1 A n c (iv l)) (hB : B ≤ w.heap.size) :
    Calls Tryz.prog 82 #[.slice A n c] w (NewRes w l n) := by
  have HOK := Lib.hid (right_ok hr)
  have HR := Lib.hid hr; clear hr
  have HS := Lib.hid hs; clear hs
  have HN := Lib.hid hn; clear hn
  have hz := zero73
  have HI := Lib.hid info73
  go_enter Tryz.func82, Tryz.ntmps82
  go_wp2_with (first
    | (go_at_call 101; refine (words_any A n c B l HN.out hl HR.out _ HS.out hB).mono ?_; rintro e w1 ⟨v1, rfl, ho1, hb1⟩)
    | (go_at_call 102; refine (counted_any A n c B l HN.out hl HOK.out _ (HS.out.below (hb1.mono hB)) (by have := hb1.size; omega)).mono ?_; rintro e w2 ⟨rfl, hb2⟩)
    | (with_reducible refine wpList_store_row rfl 123 (.tmp 6) (.tmp 16) rfl w2.heap.size (ra fun i => ct i l) rfl rfl 123 (ra fun _ => 0) (heap_alloc_new w2 _) (HI.out _) (by simp) (ra_one _) ?_))
  obtain ⟨A2, c2, rfl, _, hs2⟩ := own_seen ho1
  have h3 : Below w.heap.size w ((w2.alloc (.cells (ra fun _ => 0) 123)).setRow w2.heap.size (ra fun i => ct i l)) := below_setRow (((hb1.trans (hb2.mono hb1.size))).alloc (by have := hb1.size; have := hb2.size; omega) _) _ (by have := hb1.size; have := hb2.size; omega)
  have h4 := ((Whole.new w2 123 (ra fun _ => 0)).setRow (ra fun i => ct i l))
  have h5 : Below w1.heap.size w1 ((w2.alloc (.cells (ra fun _ => 0) 123)).setRow w2.heap.size (ra fun i => ct i l)) := below_setRow ((hb2).alloc (by have := hb2.size; omega) _) _ (hb2.size)
  have h6 := own_only ho1 (Only.of_below h5 Nob) (fun _ _ h => h)
  generalize ((w2.alloc (.cells (ra fun _ => 0) 123)).setRow w2.heap.size (ra fun i => ct i l)) = w3 at *
  obtain ⟨g, hg⟩ : ∃ g, w2.heap.size = g := ⟨_, rfl⟩
  rw [hg] at h4 ⊢
  have H3 := Lib.hid h3
  have H4 := Lib.hid h4
  have H6 := Lib.hid h6
  have hg3 := h4.lt
  clear h3 h4 h5 h6 hs2 ho1 hb1 hb2 hg hz
  refine wp_region_held_drew (S := fun W => Below w3.heap.size w3 W) (by kernel_rfl) (Below.refl _ _).drew (fun hHeld => ?_)
  refine wpAnyH_take (i := 0) (oi := ⟨some 17, _, _, _, _, _⟩) (v := ?v0) rfl (by kernel_rfl) (by kernel_rfl) (by kernel_rfl) (fun _ _ _ h => h) (Or.inl ⟨by rfl, ?hy0⟩) (by assumption) ?rest0
  case hy0 => intro W hSW; go_simp; try rfl
  try simp only [Act.put, List.setIfInBounds_toArray, List.set_cons_zero, List.set_cons_succ]
  refine wpAnyH_take (i := 2) (oi := ⟨some 19, _, _, _, _, _⟩) (v := ?v2) rfl (by kernel_rfl) (by kernel_rfl) (by kernel_rfl) (fun _ _ _ h => h) (Or.inl ⟨by rfl, ?hy2⟩) (by assumption) ?rest2
  case hy2 => intro W hSW; go_simp; try rfl
  try simp only [Act.put, List.setIfInBounds_toArray, List.set_cons_zero, List.set_cons_succ]
  refine wpAnyH_take (i := 3) (oi := ⟨some 20, _, _, _, _, _⟩) (v := (.agg (ra fun i => ct i l))) rfl (by kernel_rfl) (by kernel_rfl) (by kernel_rfl) (fun _ _ _ h => h) (Or.inl ⟨by rfl, ?hy3⟩) (by assumption) ?rest3
  case hy3 => intro W hSW; exact exec_load_of (run_loadVar_row (P := Tryz.prog) W g 123 123 (ra fun i => ct i l) (0, 0) _ ((hSW.block g hg3).trans H4.out) Tryz.underlying123 rfl (HI.out _)) (by rfl) (by rfl)
  try simp only [Act.put, List.setIfInBounds_toArray, List.set_cons_zero, List.set_cons_succ]
  refine wpAnyH_take (i := 4) (oi := ⟨some 21, _, _, _, _, _⟩) (v := ?v4) rfl (by kernel_rfl) (by kernel_rfl) (by kernel_rfl) (fun _ _ _ h => h) (Or.inl ⟨by rfl, ?hy4⟩) (by assumption) ?rest4
  case hy4 => intro W hSW; go_simp; try rfl
  try simp only [Act.put, List.setIfInBounds_toArray, List.set_cons_zero, List.set_cons_succ]
  refine wpAnyH_take (i := 5) (oi := ⟨some 22, _, _, _, _, _⟩) (v := (.agg (ra fun i => ct i l))) rfl (by kernel_rfl) (by kernel_rfl) (by kernel_rfl) (fun _ _ _ h => h) (Or.inl ⟨by rfl, ?hy5⟩) (by assumption) ?rest5
  case hy5 => intro W hSW; exact exec_load_of (run_loadVar_row (P := Tryz.prog) W g 123 123 (ra fun i => ct i l) (0, 0) _ ((hSW.block g hg3).trans H4.out) Tryz.underlying123 rfl (HI.out _)) (by rfl) (by rfl)
  try simp only [Act.put, List.setIfInBounds_toArray, List.set_cons_zero, List.set_cons_succ]
  refine wpAnyH_ready (rs := [1]) (by kernel_rfl) (by simp) ?_
  refine AllReadyH.cons (o := ⟨some 18, _, _, _, _, _⟩) rfl (fun K hK => ?_) AllReadyH.nil
  go_simp
  refine (cloneInt_any A n c B (iv l) w3.drew (by exact HS.out.below (H3.out.drew.mono hB)) (by have := H3.out.size; exact Nat.le_trans hB this) (iv_one l) (by omega)).mono ?_; rintro e w4 ⟨v4, rfl, ho4, hb4⟩; obtain ⟨A4, c4, rfl, _, hs4⟩ := own_seen ho4; have S4 := Lib.hid ho4; have B4 : Hid (Below w3.heap.size w3 w4) := Lib.hid ⟨hb4.os, hb4.tape, hb4.output, hb4.size, hb4.block⟩; clear ho4 hs4 hb4
  refine hK.out _ _ ?_ (fun hHeld2 => ?_)
  · exact B4.out
  clear hK K hHeld
  have hHeld := hHeld2; clear hHeld2
  try simp only [Act.put, List.setIfInBounds_toArray, List.set_cons_zero, List.set_cons_succ]
  refine wpAnyH_more (S' := fun W => Below w4.heap.size w4 W) (fun W h => B4.out.trans (h.mono B4.out.size)) _ _ _ _ ?_
  clear hHeld
  have hHeld : Below w4.heap.size w4 w4 := Below.refl _ _
  refine wpAnyH_ready (rs := [6]) (by kernel_rfl) (by simp) ?_
  refine AllReadyH.cons (o := ⟨some 23, _, _, _, _, _⟩) rfl (fun K hK => ?_) AllReadyH.nil
  go_simp
  refine (inOrder_any A n c B l HN.out hl HOK.out w4 (HS.out.below ((H3.out.trans (B4.out.mono H3.out.size)).mono hB)) (by have := H3.out.size; have := B4.out.size; omega)).mono ?_; rintro e w5 ⟨v5, rfl, ho5, hb5⟩; obtain ⟨A5, c5, rfl, _, hs5⟩ := own_seen ho5; have S5 := Lib.hid ho5; have B5 := Lib.hid hb5; clear ho5 hs5 hb5
  refine hK.out _ _ ?_ (fun hHeld2 => ?_)
  · exact B5.out
  clear hK K hHeld
  have hHeld := hHeld2; clear hHeld2
  try simp only [Act.put, List.setIfInBounds_toArray, List.set_cons_zero, List.set_cons_succ]
  refine wpAnyH_more (S' := fun W => Below w5.heap.size w5 W) (fun W h => B5.out.trans (h.mono B5.out.size)) _ _ _ _ ?_
  clear hHeld
  have hHeld : Below w5.heap.size w5 w5 := Below.refl _ _
  refine wpAnyH_take (i := 7) (oi := ⟨some 24, _, _, _, _, _⟩) (v := (.agg (cc l n A4 c4 A2 c2 A5 c5))) rfl (by kernel_rfl) (by kernel_rfl) (by kernel_rfl) (fun _ _ _ h => h) (Or.inl ⟨by rfl, ?hy7⟩) (by assumption) ?rest7
  case hy7 => intro W hSW; exact exec_build_of (build79 l n A4 c4 A2 c2 A5 c5 W) (by rfl) (by simp [Act.eval])
  try simp only [Act.put, List.setIfInBounds_toArray, List.set_cons_zero, List.set_cons_succ]
  refine wpAnyH_ready (rs := [8]) (by kernel_rfl) (by simp) ?_
  refine AllReadyH.cons (o := ⟨some 25, _, _, _, _, _⟩) rfl (fun K hK => ?_) AllReadyH.nil
  go_simp
  refine hK.out _ _ ?_ (fun hHeld2 => ?_)
  · exact (Below.refl _ _).alloc (Nat.le_refl _) _
  clear hK K hHeld
  have hHeld := hHeld2; clear hHeld2
  try simp only [Act.put, List.setIfInBounds_toArray, List.set_cons_zero, List.set_cons_succ]
  refine wpAnyH_take (i := 9) (oi := ⟨some 2, _, _, _, _, _⟩) (v := ?v9) rfl (by kernel_rfl) (by kernel_rfl) (by kernel_rfl) (fun _ _ _ h => h) (Or.inl ⟨by rfl, ?hy9⟩) (by assumption) ?rest9
  case hy9 => intro W hSW; go_simp; try rfl
  try simp only [Act.put, List.setIfInBounds_toArray, List.set_cons_zero, List.set_cons_succ]
  refine wpAnyH_take (i := 10) (oi := ⟨some 3, _, _, _, _, _⟩) (v := ?v10) rfl (by kernel_rfl) (by kernel_rfl) (by kernel_rfl) (fun _ _ _ h => h) (Or.inl ⟨by rfl, ?hy10⟩) (by assumption) ?rest10
  case hy10 => intro W hSW; go_simp; try rfl
  try simp only [Act.put, List.setIfInBounds_toArray, List.set_cons_zero, List.set_cons_succ]
  refine wpAnyH_done (by kernel_rfl) ?_ _
  go_wp2_with fail
  go_ret2
  have e3 := H3.out.size
  have e4 := B4.out.size
  have e5 := B5.out.size
  have B6 : ∀ {o : Obj}, Below w5.heap.size w5 (w5.alloc o) := fun {o} => (Below.refl _ _).alloc (Nat.le_refl _) o
  have B56 : ∀ {o : Obj}, Below w4.heap.size w4 (w5.alloc o) := fun {o} => B5.out.trans (B6.mono e5)
  have B46 : ∀ {o : Obj}, Below w3.heap.size w3 (w5.alloc o) := fun {o} => B4.out.trans (B56.mono e4)
  have hs5 := S5.out
  rw [HN.out] at hs5
  have hK : ∀ {a b : World} {base : Nat} {e : TypeId} {v : Value} {m : Nat} {xs : List Value}, a.ownsRow base e 1 v m xs → Below a.heap.size a b → w.heap.size ≤ base → b.ownsRow w.heap.size e 1 v m xs := fun h hb hl => own_base (own_only h (Only.of_below hb Nob) (fun _ _ h => h)) hl
  refine ⟨_, rfl, ⟨A4, c4, A2, c2, A5, c5, Whole.new _ _ _, by omega, hK S4.out B56 (by simpa using e3), hK H6.out B46 (Nat.le_refl _), hK hs5 B6 (by omega)⟩, H3.out.trans (B46.mono e3)⟩
end Go.Proofs.YtkjhefjjacokjaaGreat
