/-
  The library's insertion sort at this program's two kinds of rows; a row of the call's own behind a sort. Conditions: each theorem names the range of its arguments.
-/
import Derived.Test.YtnnpiblnjflceaaK1
import Derived.Test.YtnnpiblnjflceaaQY1
import Derived.Shelf.SlSortCmp.KitK
import Derived.Shelf.SlSortCmp.Insertion1
import Derived.Lib.OwnBridge
import Derived.Deep.QuietTactic
import Derived.BigQuiet
namespace Go.Proofs.Ytnnpiblnjflceaa
open Go.Proofs Go.Shelf Go.RowKit Go.Sort Go.Lib
set_option maxRecDepth 100000

def Try.insI_ren : Go.Shelf.Ren := ⟨fun | 20 => 97 | n => n, fun | 24 => 3 | 22 => 62 | 3 => 3 | 25 => 66 | 4 => 4 | 0 => 0 | n => n, fun | n => n⟩
theorem Try.insI : Go.Proofs.SlLaysF.n20 Try.prog Try.insI_ren := {
  mixed := by kernel_rfl
  f20 := ⟨Try.f97.name, by decide, Try.func97.trans (congrArg some (by kernel_rfl))⟩
  t0 := Try.underlying0
  a0 := Try.isAgg0
  z0 := Try.sizeOf0
  v0 := Try.zeroValue0
  t3 := Try.underlying3
  a3 := Try.isAgg3
  z3 := Try.sizeOf3
  v3 := Try.zeroValue3
  t4 := Try.underlying4
  a4 := Try.isAgg4
  z4 := Try.sizeOf4
  v4 := Try.zeroValue4
  t22 := Try.underlying62
  a22 := Try.isAgg62
  z22 := Try.sizeOf62
  v22 := Try.zeroValue62
  a24 := Try.isAgg3
  z24 := Try.sizeOf3
  t25 := Try.underlying66
  a25 := Try.isAgg66
  z25 := Try.sizeOf66
  v25 := Try.zeroValue66 }
def Try.insP_ren : Go.Shelf.Ren := ⟨fun | 20 => 101 | n => n, fun | 24 => 122 | 22 => 120 | 3 => 3 | 25 => 128 | 4 => 4 | 0 => 0 | n => n, fun | n => n⟩
theorem Try.insP : Go.Proofs.SlLaysF0.n20 Try.prog Try.insP_ren := {
  mixed := by kernel_rfl
  f20 := ⟨Try.f101.name, by decide, Try.func101.trans (congrArg some (by kernel_rfl))⟩
  t0 := Try.underlying0
  a0 := Try.isAgg0
  z0 := Try.sizeOf0
  v0 := Try.zeroValue0
  t3 := Try.underlying3
  a3 := Try.isAgg3
  z3 := Try.sizeOf3
  v3 := Try.zeroValue3
  t4 := Try.underlying4
  a4 := Try.isAgg4
  z4 := Try.sizeOf4
  v4 := Try.zeroValue4
  t22 := Try.underlying120
  a22 := Try.isAgg120
  z22 := Try.sizeOf120
  v22 := Try.zeroValue120
  t25 := Try.underlying128
  a25 := Try.isAgg128
  z25 := Try.sizeOf128
  v25 := Try.zeroValue128 }

section
variable {α : Type} [Inhabited α]
theorem onlyPut (enc : α → Value) (w : World) (q g off : Nat) (d : Array α) (os : Array Obj) : Only (fun k => k = g) w (grow (putRow enc (Sort.ahead w q) g off d) os) := by
  refine ⟨rfl, rfl, rfl, ?_, ?_⟩
  · simp [grow, putRow, mapBlock, Sort.ahead]
  · intro i hi hn
    have hgi : ¬ g = i := fun e => hn e.symm
    show (w.heap.modify g (onCells (putCells enc off d)) ++ os)[i]? = w.heap[i]?
    rw [Array.getElem?_append_left (by simpa using hi), Array.getElem?_modify, if_neg hgi]
theorem ownPut (enc : α → Value) {w : World} {base : Nat} {e : TypeId} {g n cap size : Nat} {xs : List Value} (h : w.ownsRow base e size (.slice (some ⟨g, 0, none⟩) n cap) n xs) (q : Nat) (d : Array α) (hd : d.size = n * size) (os : Array Obj) :
    (grow (putRow enc (Sort.ahead w q) g 0 d) os).ownsRow base e size (.slice (some ⟨g, 0, none⟩) n cap) n (d.toList.map enc) := by
  rcases h.2 with ⟨e0, _⟩ | ⟨g', cap', cur, e0, hb, hg, hn, hm, hs, ht⟩
  · cases e0
  · injection e0 with e1 _ e3
    injection e1 with e1
    injection e1 with e1
    subst e1; subst e3
    have hgl := (Array.getElem?_eq_some_iff.1 hg).1
    have hmul : n * size ≤ cap * size := Nat.mul_le_mul_right _ hn
    refine ⟨by simp; omega, .inr ⟨g, cap, putCells enc 0 d cur, rfl, hb, ?_, hn, hm, by simpa [putCells] using hs, ?_⟩⟩
    · show (w.heap.modify g (onCells (putCells enc 0 d)) ++ os)[g]? = _
      rw [Array.getElem?_append_left (by simpa using hgl), Array.getElem?_modify, if_pos rfl, hg]
      rfl
    · apply List.ext_getElem?
      intro j
      rw [List.getElem?_take, List.getElem?_map, Array.getElem?_toList]
      by_cases hj : j < n * size
      · have hjc : j < cur.size := by omega
        simp only [if_pos hj, putCells, Array.getElem?_mapIdx, Array.getElem?_eq_getElem hjc, Option.map_some]
        rw [if_pos (by omega), Array.getElem?_toList, Array.getElem?_eq_getElem (by omega)]
        simp [getElem!_pos, show j < d.size by omega]
      · rw [if_neg hj, List.getElem?_eq_none (by simp; omega)]; rfl
end

/-- cmp.Compare of integers. -/
def cmpI (x y : Int) : Int := if x < y then -1 else if y < x then 1 else 0
theorem nan_no (x : Int) (w : World) : Calls Try.prog 93 #[.int .i64 x] w fun e w' => e = .returned (.bool false) ∧ w = w' := by
  have hx : (x != x) = false := by simp
  go_enter Try.func93, Try.ntmps93
  go_wp2
  go_ret
  exact ⟨by simp, rfl⟩
theorem compare_any (x y : Int) (w : World) : Calls Try.prog 86 #[.int .i64 x, .int .i64 y] w fun e w' => e = .returned (.int .i64 (cmpI x y)) ∧ w = w' := by
  unfold cmpI
  by_cases h1 : x < y
  · rw [if_pos h1]
    have d1 : decide (x < y) = true := by simpa using h1
    go_enter Try.func86, Try.ntmps86
    go_wp2_with (go_at_call 93; refine (nan_no _ _).mono ?_; rintro e w1 ⟨rfl, rfl⟩)
    go_ret
    exact ⟨rfl, rfl⟩
  · rw [if_neg h1]
    have d1 : decide (x < y) = false := by simpa using h1
    by_cases h2 : y < x
    · rw [if_pos h2]
      have d2 : decide (y < x) = true := by simpa using h2
      go_enter Try.func86, Try.ntmps86
      go_wp2_with (go_at_call 93; refine (nan_no _ _).mono ?_; rintro e w1 ⟨rfl, rfl⟩)
      go_ret
      exact ⟨rfl, rfl⟩
    · rw [if_neg h2]
      have d2 : decide (y < x) = false := by simpa using h2
      go_enter Try.func86, Try.ntmps86
      go_wp2_with (go_at_call 93; refine (nan_no _ _).mono ?_; rintro e w1 ⟨rfl, rfl⟩)
      go_ret
      exact ⟨rfl, rfl⟩

/-- A pack's two cells. -/
def encP (p : Pk) : List Value := [.int .i64 (p.1 : Nat), .bool p.2]
theorem cloP (x y : Pk) (W : World) : Calls Try.prog 96 #[.agg (encP x).toArray, .agg (encP y).toArray] W fun e w' => e = .returned (.int .i64 (cmpI x.1 y.1)) ∧ ∃ q os', w' = grow (W.drewN q) os' := by
  obtain ⟨x, b⟩ := x
  obtain ⟨y, c⟩ := y
  have hcon := Lib.hid (fun W' => compare_any x y W')
  simp only [encP]
  generalize cmpI (x : Int) y = r at hcon ⊢
  go_enter Try.func96, Try.ntmps96
  go_wp2_with (go_at_call 86; refine (hcon.out _).mono ?_; rintro e w1 ⟨rfl, rfl⟩)
  go_ret
  exact ⟨rfl, 0, _, by rw [alloc_eq_grow, alloc_eq_grow, grow_grow]; rfl⟩
end Go.Proofs.Ytnnpiblnjflceaa
